"""Head lists of requests, responses and trailers in version two."""

from ownanswer.octets import is_digit, is_token, lower, to_octets, to_text, trimmed, values

COLON = 58
LEFT_OUT = ("connection", "keep-alive", "proxy-connection", "transfer-encoding", "upgrade")
HOST = "host"
TE = "te"
TRAILERS = "trailers"
SCHEME = "http"

MOST_METHOD = 20
MOST_NAME = 40
MOST_VALUE = 1000
MOST_PATH = 1000


def _pair(name, value):
    return (to_octets(name), to_octets(value))


def _field_pairs(fields, others):
    """The pairs of fields, without the names that are left out and these others."""
    found = []
    for name, value in fields:
        if name in LEFT_OUT or name in others or (name == TE and value != TRAILERS):
            continue
        found.append(_pair(name, value))
    return found


def ask_pairs(head):
    """The head list of a request's head."""
    _, method, target, fields = head
    found = [_pair(":method", method), _pair(":scheme", SCHEME)]
    hosts = values(fields, HOST)
    if len(hosts) > 0:
        found.append(_pair(":authority", hosts[0]))
    found.append((to_octets(":path"), tuple(target)))
    return found + _field_pairs(fields, (HOST,))


def reply_pairs(head):
    """The head list of a response's head."""
    _, status, fields = head
    return [_pair(":status", f"{status:03d}")] + _field_pairs(fields, ())


def trailer_pairs(fields):
    """The head list of trailers."""
    return _field_pairs(fields, (HOST,))


def _read_name(octets):
    """The name of a field, or None."""
    name = to_text(octets)
    if name is None or not is_token(name) or len(name) > MOST_NAME:
        return None
    return None if lower(name) != name or name in LEFT_OUT else name


def _read_value(octets):
    """The value of a field, or None."""
    value = to_text(octets)
    if value is None or len(value) > MOST_VALUE or trimmed(value) != value:
        return None
    return value


def read_trailers(pairs):
    """The fields of a head list without names that begin with a colon, or None."""
    fields = []
    for name_octets, value_octets in pairs:
        name = _read_name(name_octets)
        value = _read_value(value_octets)
        if name is None or value is None or (name == TE and value != TRAILERS):
            return None
        fields.append((name, value))
    return tuple(fields)


def _has_colon(pair):
    return len(pair[0]) > 0 and pair[0][0] == COLON


def _read_firsts(pairs, needed, others):
    """A dict of the values by the names of these pairs, or None if it has not each needed name and others at most."""
    firsts = {}
    for name_octets, value in pairs:
        name = to_text(name_octets)
        if name in firsts or (name not in needed and name not in others):
            return None
        firsts[name] = value
    return firsts if all([name in firsts for name in needed]) else None


def _is_path(octets):
    return 1 <= len(octets) <= MOST_PATH and all([33 <= octet <= 126 for octet in octets])


def _ask_head(pairs, fields):
    """The head of a request, or None."""
    firsts = _read_firsts(pairs, (":method", ":scheme", ":path"), (":authority",))
    if firsts is None:
        return None
    method = _read_value(firsts[":method"])
    authority = _read_value(firsts.get(":authority", ()))
    path = tuple(firsts[":path"])
    if method is None or not is_token(method) or len(method) > MOST_METHOD or not _is_path(path):
        return None
    # No field is made of the scheme, so the rule of values does not bind it.
    if to_text(firsts[":scheme"]) is None or authority is None:
        return None
    if authority == "":
        return ("ask", method, path, fields)
    others = tuple([(name, value) for name, value in fields if name != HOST])
    return ("ask", method, path, ((HOST, authority),) + others)


def _reply_head(pairs, fields):
    """The head of a response, or None."""
    firsts = _read_firsts(pairs, (":status",), ())
    if firsts is None:
        return None
    digits = firsts[":status"]
    if len(digits) != 3 or not all([is_digit(octet) for octet in digits]):
        return None
    status = int(to_text(digits))
    return ("reply", status, fields) if 100 <= status <= 599 else None


def read_head(side, pairs):
    """The head that a head list holds, or None if it is malformed."""
    count = 0
    while count < len(pairs) and _has_colon(pairs[count]):
        count += 1
    fields = read_trailers(pairs[count:])
    if fields is None:
        return None
    return _ask_head(pairs[:count], fields) if side == "ask" else _reply_head(pairs[:count], fields)
