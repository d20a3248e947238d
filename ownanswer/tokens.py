"""Quoted strings, lists, parameters and weights."""

from ownanswer.octets import DIGITS, is_token, lower, trimmed, values

QUOTE = '"'
BACKSLASH = "\\"


def read_quoted(text):
    """The signs inside of exactly one quoted string, or None."""
    if len(text) < 2 or text[0] != QUOTE or text[-1] != QUOTE:
        return None
    signs = []
    taken = False
    for sign in text[1:-1]:
        if sign == BACKSLASH and not taken:
            taken = True
            continue
        if sign == QUOTE and not taken:
            return None
        signs.append(sign)
        taken = False
    # A backslash that is left has taken the quote at the end.
    return None if taken else "".join(signs)


def write_quoted(text):
    """The quoted string of these signs."""
    inside = text.replace(BACKSLASH, BACKSLASH + BACKSLASH).replace(QUOTE, BACKSLASH + QUOTE)
    return QUOTE + inside + QUOTE


def _cut(text, mark):
    """The parts between marks outside of quoted strings, or None if one is not closed."""
    parts = []
    begin = 0
    quoted = False
    taken = False
    for at, sign in enumerate(text):
        if taken:
            taken = False
        elif sign == QUOTE:
            quoted = not quoted
        elif sign == BACKSLASH:
            taken = quoted
        elif sign == mark and not quoted:
            parts.append(text[begin:at])
            begin = at + 1
    parts.append(text[begin:])
    return None if quoted else parts


def split_list(value):
    """The elements of a list, or None if a quoted string is not closed."""
    parts = _cut(value, ",")
    if parts is None:
        return None
    trimmed_parts = [trimmed(part) for part in parts]
    return [part for part in trimmed_parts if part != ""]


def join_values(fields, name):
    """The values of a name joined by a comma and a blank, or None if there is none."""
    found = values(fields, name)
    return None if len(found) == 0 else ", ".join(found)


def _read_param(part):
    """A pair (name, value), or None."""
    name, sign, text = part.partition("=")
    if not is_token(name):
        return None
    if sign == "" or is_token(text):
        return (lower(name), text)
    inside = read_quoted(text)
    return None if inside is None else (lower(name), inside)


def read_params(element):
    """(head, params) of an element with parameters, or None."""
    parts = _cut(element, ";")
    if parts is None:
        return None
    params = []
    for part in parts[1:]:
        if trimmed(part) == "":
            continue
        param = _read_param(trimmed(part))
        if param is None:
            return None
        params.append(param)
    return (trimmed(parts[0]), tuple(params))


def read_weight(text):
    """The thousandths of a weight, 0 to 1000, or None."""
    whole, _, part = text.partition(".")
    if (whole != "0" and whole != "1") or len(part) > 3:
        return None
    if not all([sign in DIGITS for sign in part]):
        return None
    weight = int(whole) * 1000 + int(part.ljust(3, "0"))
    return None if weight > 1000 else weight
