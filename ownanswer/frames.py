"""Frames as octets, and the codes of words."""

# The sorts of frames.
DATA = 0
HEAD = 1
PART = 2
RESET = 3
SETTINGS = 4
PROMISE = 5
PING = 6
AWAY = 7
WINDOW = 8
MORE = 9

# The flags; the same bit is the answer of settings and of pings, and the end of data and of heads.
ENDS = 1
ANSWERS = 1
IS_WHOLE = 4
IS_PADDED = 8
HAS_PART = 32

ALONE = 2147483648

CODES = {
    "none": 0, "value": 1, "stream": 1, "more": 1, "self": 1, "order": 1, "inner": 2, "flow": 3, "window": 1, "late": 4,
    "closed": 5, "size": 6, "pad": 1, "refused": 7, "gone": 8, "head": 9, "number": 9, "row": 9, "room": 9, "code": 9,
    "short": 9, "busy": 11,
}
INNER = 2


def code_of(word):
    """The code of a word; that of "inner" for one that has none."""
    return CODES.get(word, INNER)


def _number(value, count):
    """The octets of a number, the highest first."""
    return tuple([(value >> (8 * place)) & 255 for place in reversed(range(count))])


def _flag(holds, bit):
    return bit if holds else 0


def _part_octets(part):
    alone, other, weight = part
    return _number(_flag(alone, ALONE) + other, 4) + (weight - 1,)


def _padded(octets, pad):
    """The octets between the length of the padding and the padding, if there is one."""
    return octets if pad is None else (pad,) + octets + (0,) * pad


def _data(frame):
    _, stream, end, octets, pad = frame
    return (DATA, _flag(end, ENDS) + _flag(pad is not None, IS_PADDED), stream, _padded(tuple(octets), pad))


def _head(frame):
    _, stream, end, whole, part, octets, pad = frame
    flags = _flag(end, ENDS) + _flag(whole, IS_WHOLE) + _flag(pad is not None, IS_PADDED)
    if part is None:
        return (HEAD, flags, stream, _padded(tuple(octets), pad))
    return (HEAD, flags + HAS_PART, stream, _padded(_part_octets(part) + tuple(octets), pad))


def _part(frame):
    _, stream, part = frame
    return (PART, 0, stream, _part_octets(part))


def _reset(frame):
    _, stream, code = frame
    return (RESET, 0, stream, _number(code, 4))


def _settings(frame):
    _, answer, pairs = frame
    payload = []
    for name, value in pairs:
        payload.extend(_number(name, 2) + _number(value, 4))
    return (SETTINGS, _flag(answer, ANSWERS), 0, tuple(payload))


def _promise(frame):
    _, stream, whole, other, octets, pad = frame
    flags = _flag(whole, IS_WHOLE) + _flag(pad is not None, IS_PADDED)
    return (PROMISE, flags, stream, _padded(_number(other, 4) + tuple(octets), pad))


def _ping(frame):
    _, answer, octets = frame
    return (PING, _flag(answer, ANSWERS), 0, tuple(octets))


def _away(frame):
    _, last, code, octets = frame
    return (AWAY, 0, 0, _number(last, 4) + _number(code, 4) + tuple(octets))


def _window(frame):
    _, stream, amount = frame
    return (WINDOW, 0, stream, _number(amount, 4))


def _more(frame):
    _, stream, whole, octets = frame
    return (MORE, _flag(whole, IS_WHOLE), stream, tuple(octets))


def _other(frame):
    _, sort, flags, stream, octets = frame
    return (sort, flags, stream, tuple(octets))


WRITERS = {
    "data": _data, "head": _head, "part": _part, "reset": _reset, "settings": _settings, "promise": _promise,
    "ping": _ping, "away": _away, "window": _window, "more": _more, "other": _other,
}


def frame_octets(frame):
    """The octets of a frame on the line."""
    writer = WRITERS[frame[0]]
    sort, flags, stream, payload = writer(frame)
    return _number(len(payload), 3) + (sort, flags) + _number(stream, 4) + payload
