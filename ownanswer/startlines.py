"""The first lines of messages, octet by octet."""

from ownanswer.octets import is_token_sign, is_value_sign, to_text

MOST_METHOD = 20
MOST_TARGET = 1000
MOST_REASON = 200

LINE_FAULT = ("fault", "line")
VERSION_FAULT = ("fault", "version")

# What may stand at each place behind the second blank of a request's line.
ASK_TAIL = ((72,), (84,), (84,), (80,), (47,), (49,), (46,), (48, 49), (13,), (10,))

# What may stand at each place ahead of the reason of a response's line.
REPLY_START = (
    (72,), (84,), (84,), (80,), (47,), (49,), (46,), (48, 49), (32,), (49, 50, 51, 52, 53),
    (48, 49, 50, 51, 52, 53, 54, 55, 56, 57), (48, 49, 50, 51, 52, 53, 54, 55, 56, 57), (32,),
)
SWITCHING = (49, 48, 49)


class LineReader:
    """Reads one first line; side is "ask" or "reply"."""

    def __init__(self, side):
        self._stage = "method" if side == "ask" else "start"
        self._part = []
        self._told = ()

    def take(self, octet):
        """None, ("line", parts) behind the line end, or ("fault", word)."""
        if self._stage == "method":
            return self._take_method(octet)
        if self._stage == "target":
            return self._take_target(octet)
        if self._stage == "version":
            return self._take_version(octet)
        if self._stage == "start":
            return self._take_start(octet)
        if self._stage == "reason":
            return self._take_reason(octet)
        return ("line", self._told) if octet == 10 else LINE_FAULT

    def _go_on(self, stage, told):
        self._stage = stage
        self._part = []
        self._told = self._told + told

    def _take_method(self, octet):
        if octet == 32:
            method = to_text(self._part)
            if method == "" or method == "CONNECT":
                return LINE_FAULT
            self._go_on("target", (method,))
            return None
        if len(self._part) == MOST_METHOD or not is_token_sign(octet):
            return LINE_FAULT
        self._part.append(octet)
        return None

    def _take_target(self, octet):
        if octet == 32 and len(self._part) > 0:
            self._go_on("version", (tuple(self._part),))
            return None
        if len(self._part) == MOST_TARGET or not 33 <= octet <= 126:
            return LINE_FAULT
        self._part.append(octet)
        return None

    def _take_version(self, octet):
        if octet not in ASK_TAIL[len(self._part)]:
            return VERSION_FAULT
        self._part.append(octet)
        if len(self._part) < len(ASK_TAIL):
            return None
        return ("line", (self._told[0], self._told[1], self._part[7] - 48))

    def _take_start(self, octet):
        if octet not in REPLY_START[len(self._part)]:
            return LINE_FAULT
        self._part.append(octet)
        if tuple(self._part[9:]) == SWITCHING:
            return LINE_FAULT
        if len(self._part) == len(REPLY_START):
            status = int(to_text(self._part[9:12]))
            self._go_on("reason", (status, self._part[7] - 48))
        return None

    def _take_reason(self, octet):
        if octet == 13:
            self._stage = "end"
            return None
        if len(self._part) == MOST_REASON or not is_value_sign(octet):
            return LINE_FAULT
        self._part.append(octet)
        return None
