"""The reader of frames."""

from ownanswer.frames import (
    ALONE, ANSWERS, AWAY, DATA, ENDS, HAS_PART, HEAD, IS_PADDED, IS_WHOLE, MORE, PART, PING, PROMISE, RESET, SETTINGS,
    WINDOW,
)

START_SIZE = 9
PART_SIZE = 5
OTHER_SIZE = 4
FIRST_MOST = 16384


def _value(octets):
    """The number whose octets these are, the highest first."""
    total = 0
    for octet in octets:
        total = total * 256 + octet
    return total


def _stream(octets):
    """The stream that four octets name; the highest bit is not looked at."""
    return _value(octets) % ALONE


def _has(flags, bit):
    return flags & bit != 0


def _read_part(octets):
    return (octets[0] >= 128, _stream(octets[:4]), octets[4] + 1)


def _unpadded(payload, flags, count):
    """(the first octets, so many as count, the others, pad) without the padding, or None if they are too few."""
    begin = 1 if _has(flags, IS_PADDED) else 0
    if len(payload) < begin:
        return None
    pad = payload[0] if begin == 1 else None
    end = len(payload) if pad is None else len(payload) - pad
    if end < begin + count:
        return None
    return (payload[begin:begin + count], payload[begin + count:end], pad)


def _fault(word):
    return ("fault", word)


def _frame(frame):
    return ("frame", frame)


def _read_data(flags, stream, payload):
    found = _unpadded(payload, flags, 0)
    if found is None:
        return _fault("pad")
    return _frame(("data", stream, _has(flags, ENDS), found[1], found[2]))


def _read_head(flags, stream, payload):
    found = _unpadded(payload, flags, PART_SIZE if _has(flags, HAS_PART) else 0)
    if found is None:
        return _fault("pad")
    start, octets, pad = found
    part = _read_part(start) if _has(flags, HAS_PART) else None
    if part is not None and part[1] == stream:
        return _fault("self")
    return _frame(("head", stream, _has(flags, ENDS), _has(flags, IS_WHOLE), part, octets, pad))


def _read_part_frame(flags, stream, payload):
    part = _read_part(payload)
    return _fault("self") if part[1] == stream else _frame(("part", stream, part))


def _read_reset(flags, stream, payload):
    return _frame(("reset", stream, _value(payload)))


def _read_settings(flags, stream, payload):
    pairs = [(_value(payload[at:at + 2]), _value(payload[at + 2:at + 6])) for at in range(0, len(payload), 6)]
    return _frame(("settings", _has(flags, ANSWERS), tuple(pairs)))


def _read_promise(flags, stream, payload):
    found = _unpadded(payload, flags, OTHER_SIZE)
    if found is None:
        return _fault("pad")
    start, octets, pad = found
    return _frame(("promise", stream, _has(flags, IS_WHOLE), _stream(start), octets, pad))


def _read_ping(flags, stream, payload):
    return _frame(("ping", _has(flags, ANSWERS), payload))


def _read_away(flags, stream, payload):
    return _frame(("away", _stream(payload[:4]), _value(payload[4:8]), payload[8:]))


def _read_window(flags, stream, payload):
    amount = _stream(payload)
    return _fault("window") if amount == 0 else _frame(("window", stream, amount))


def _read_more(flags, stream, payload):
    return _frame(("more", stream, _has(flags, IS_WHOLE), payload))


# By the sorts of the frames.
READERS = (
    _read_data, _read_head, _read_part_frame, _read_reset, _read_settings, _read_promise, _read_ping, _read_away,
    _read_window, _read_more,
)


def _read_frame(sort, flags, stream, payload):
    """("frame", frame), or ("fault", word) if the payload is wrong."""
    if sort >= len(READERS):
        return _frame(("other", sort, flags, stream, payload))
    reader = READERS[sort]
    return reader(flags, stream, payload)


def _has_fitting_size(sort, flags, size):
    """True if a payload of this size may stand in a frame of this sort."""
    if sort == PART:
        return size == PART_SIZE
    if sort == RESET or sort == WINDOW:
        return size == 4
    if sort == PING:
        return size == 8
    if sort == AWAY:
        return size >= 8
    return sort != SETTINGS or (size == 0 if _has(flags, ANSWERS) else size % 6 == 0)


def _has_fitting_stream(sort, stream):
    """True if a frame of this sort may be one of this stream."""
    if sort in (SETTINGS, PING, AWAY):
        return stream == 0
    return stream > 0 or sort not in (DATA, HEAD, PART, RESET, PROMISE, MORE)


class FrameReader:
    """Tells the frames of one direction of a line."""

    def __init__(self):
        self._most = FIRST_MOST
        # The index of the first octet of the frame that is read, its octets, and how many of them come next.
        self._begin = 0
        self._held = []
        self._wanted = START_SIZE
        # The stream of a head list that is not whole, or 0.
        self._unfinished = 0
        self._over = False

    def set_most(self, most):
        """The greatest length of a payload, for frames whose first 9 octets are complete later."""
        self._most = most

    def take(self, piece):
        """The list of the events that this piece completes."""
        return list(self.each(piece))

    def each(self, piece):
        """The same events, each as soon as it is read."""
        at = 0
        while at < len(piece) and not self._over:
            end = min(len(piece), at + self._wanted - len(self._held))
            self._held.extend(piece[at:end])
            at = end
            event = self._go_on()
            if event is not None:
                yield event

    def _go_on(self):
        """The event that the octets so far complete, or None."""
        if len(self._held) < self._wanted:
            return None
        size = _value(self._held[:3])
        sort = self._held[3]
        flags = self._held[4]
        stream = _stream(self._held[5:START_SIZE])
        if self._wanted == START_SIZE:
            word = self._start_fault(size, sort, flags, stream)
            if word != "":
                return self._end(word)
            self._wanted = START_SIZE + size
            if size > 0:
                return None
        told = _read_frame(sort, flags, stream, tuple(self._held[START_SIZE:]))
        if told[0] == "fault":
            return self._end(told[1])
        if sort in (HEAD, PROMISE, MORE):
            self._unfinished = 0 if _has(flags, IS_WHOLE) else stream
        self._begin += len(self._held)
        self._held = []
        self._wanted = START_SIZE
        return told

    def _start_fault(self, size, sort, flags, stream):
        """The word of the fault that the first 9 octets of a frame show, or an empty one."""
        if size > self._most or not _has_fitting_size(sort, flags, size):
            return "size"
        if not _has_fitting_stream(sort, stream):
            return "stream"
        if self._unfinished > 0:
            return "" if sort == MORE and stream == self._unfinished else "more"
        return "more" if sort == MORE else ""

    def _end(self, word):
        self._over = True
        return ("fault", word, self._begin)
