"""Codes, paths, targets, hosts and queries."""

from ownanswer.octets import hex_digit, is_digit, is_digits, is_letter, lower, to_octets, to_text

CODE = 37
SLASH = 47
QUESTION = 63
HASH = 35
PLUS = 43
BLANK = 32
AND = 38
EQUALS = 61
STAR = (42,)
CURRENT = (46,)
PARENT = (46, 46)
UNRESERVED_MARKS = (45, 46, 95, 126)

HOST_SIGNS = "-.0123456789abcdefghijklmnopqrstuvwxyz"
DEFAULT_PORT = 80
MOST_PORT = 65535
MOST_PORT_DIGITS = 5


def _is_unreserved(octet):
    return is_letter(octet) or is_digit(octet) or octet in UNRESERVED_MARKS


def _code_of(octet):
    """The octets of the code of an octet."""
    return (CODE,) + to_octets(f"{octet:02X}")


def _pieces(octets):
    """The pairs (octet, was a code) that octets stand for, or None."""
    pieces = []
    at = 0
    while at < len(octets):
        if octets[at] != CODE:
            pieces.append((octets[at], False))
            at += 1
            continue
        digits = [hex_digit(octet) for octet in octets[at + 1:at + 3]]
        if len(digits) < 2 or -1 in digits:
            return None
        pieces.append((digits[0] * 16 + digits[1], True))
        at += 3
    return pieces


def decode(octets):
    """The octets with each code replaced by what it names, or None."""
    pieces = _pieces(octets)
    return None if pieces is None else tuple([octet for octet, coded in pieces])


def encode(octets, kept):
    """The octets with a code for each that is neither unreserved nor kept."""
    found = []
    for octet in octets:
        if _is_unreserved(octet) or octet in kept:
            found.append(octet)
        else:
            found.extend(_code_of(octet))
    return tuple(found)


def _one_form(octets):
    """The octets with needless codes replaced and the others in capital letters, or None."""
    pieces = _pieces(octets)
    if pieces is None:
        return None
    found = []
    for octet, coded in pieces:
        if coded and not _is_unreserved(octet):
            found.extend(_code_of(octet))
        else:
            found.append(octet)
    return tuple(found)


def _cut(octets, mark):
    """The list of the parts between the octets mark."""
    parts = []
    begin = 0
    for at, octet in enumerate(octets):
        if octet == mark:
            parts.append(octets[begin:at])
            begin = at + 1
    parts.append(octets[begin:])
    return parts


def _cut_once(octets, mark):
    """The parts ahead of and behind the first octet mark; None behind if there is none."""
    if mark not in octets:
        return (octets, None)
    at = octets.index(mark)
    return (octets[:at], octets[at + 1:])


def clean_path(path):
    """The one form of a path, or None."""
    form = _one_form(path)
    if form is None:
        return None
    segments = _cut(form[1:], SLASH)
    kept = []
    for segment in segments:
        if segment == PARENT and len(kept) > 0:
            kept.pop()
        if segment != PARENT and segment != CURRENT:
            kept.append(segment)
    # Such a last segment leaves the slash ahead of it.
    if segments[-1] == PARENT or segments[-1] == CURRENT:
        kept.append(())
    found = []
    for segment in kept:
        found.append(SLASH)
        found.extend(segment)
    return tuple(found)


def _read_host_and_port(text, default):
    """(host, port), or None; a default below 0 says that the port may not be left out."""
    name, colon, digits = text.partition(":")
    host = lower(name)
    if host == "" or not all([sign in HOST_SIGNS for sign in host]):
        return None
    if colon == "":
        return None if default < 0 else (host, default)
    if not is_digits(digits) or len(digits) > MOST_PORT_DIGITS:
        return None
    port = int(digits)
    return (host, port) if 1 <= port <= MOST_PORT else None


def read_host(value):
    """(host, port) of the value of Host, or None."""
    return _read_host_and_port(value, DEFAULT_PORT)


def _read_authority(octets, default):
    text = to_text(octets)
    return None if text is None else _read_host_and_port(text, default)


def _is_clear(octets):
    """True for octets that may stand in a path or a query."""
    fitting = [33 <= octet <= 126 and octet != HASH for octet in octets]
    return all(fitting) and _pieces(octets) is not None


def _read_path_and_query(octets):
    """(path, query), query None if there is none, or None."""
    path, query = _cut_once(octets, QUESTION)
    if not _is_clear(path) or (query is not None and not _is_clear(query)):
        return None
    return (path, query)


def _read_absolute(octets):
    """The target behind `http://`, or None."""
    ends = [at for at, octet in enumerate(octets) if octet == SLASH or octet == QUESTION]
    end = ends[0] if len(ends) > 0 else len(octets)
    authority = _read_authority(octets[:end], DEFAULT_PORT)
    rest = _read_path_and_query(octets[end:])
    if authority is None or rest is None:
        return None
    path = (SLASH,) if rest[0] == () else rest[0]
    return ("absolute", authority[0], authority[1], path, rest[1])


def read_target(method, target):
    """The target in its form, or None."""
    octets = tuple(target)
    if method == "CONNECT":
        authority = _read_authority(octets, -1)
        return None if authority is None else ("authority",) + authority
    if octets[:1] == (SLASH,):
        rest = _read_path_and_query(octets)
        return None if rest is None else ("origin",) + rest
    start = to_text(octets[:7])
    if start is not None and lower(start) == "http://":
        return _read_absolute(octets[7:])
    return ("star",) if method == "OPTIONS" and octets == STAR else None


def _read_part(octets):
    """The octets of a name or a value of a query, or None."""
    return decode([BLANK if octet == PLUS else octet for octet in octets])


def read_query(query):
    """The list of the pairs (name, value) of a query, or None."""
    pairs = []
    for part in _cut(tuple(query), AND):
        if part == ():
            continue
        name, value = _cut_once(part, EQUALS)
        pair = (_read_part(name), _read_part(() if value is None else value))
        if pair[0] is None or pair[1] is None:
            return None
        pairs.append(pair)
    return pairs


def _write_part(octets):
    found = []
    for octet in octets:
        if octet == BLANK:
            found.append(PLUS)
        else:
            found.extend(encode((octet,), ()))
    return tuple(found)


def write_query(pairs):
    """The query of these pairs."""
    found = []
    for at, pair in enumerate(pairs):
        if at > 0:
            found.append(AND)
        found.extend(_write_part(pair[0]))
        found.append(EQUALS)
        found.extend(_write_part(pair[1]))
    return tuple(found)
