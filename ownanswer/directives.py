"""The directives of Cache-Control."""

from ownanswer.octets import is_digits, is_token, lower
from ownanswer.tokens import join_values, read_quoted, split_list

UNREADABLE = (("no-store", None),)
MOST_DIGITS = 20
MOST_SECONDS = 2147483648


def _read_directive(element):
    """A pair (name, value), value None without one; None for another form."""
    name, sign, text = element.partition("=")
    if not is_token(name):
        return None
    if sign == "":
        return (lower(name), None)
    value = text if is_token(text) else read_quoted(text)
    return None if value is None else (lower(name), value)


def read_directives(fields):
    """A tuple of the pairs (name, value) of all Cache-Control values."""
    joined = join_values(fields, "cache-control")
    parts = [] if joined is None else split_list(joined)
    if parts is None:
        # Who cannot read what is asked for must not keep anything.
        return UNREADABLE
    found = [_read_directive(part) for part in parts]
    return tuple([pair for pair in found if pair is not None])


def directive(directives, name):
    """(found, value) of the first directive with this name."""
    for key, value in directives:
        if key == lower(name):
            return (True, value)
    return (False, None)


def seconds(value):
    """The number of a text of 1 to 20 digits, at most 2 ** 31; None for anything else."""
    if value is None or not is_digits(value) or len(value) > MOST_DIGITS:
        return None
    return min(int(value), MOST_SECONDS)
