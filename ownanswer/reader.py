"""The reader of one direction of a line of version one."""

from ownanswer.chunks import ChunkReader
from ownanswer.errors import WrongUse
from ownanswer.heads import FieldsReader
from ownanswer.lengths import body_rule, is_interim, is_last, waits
from ownanswer.octets import joined
from ownanswer.startlines import LineReader

MOST_ENDS_AHEAD = 2


class Reader:
    """Tells the messages of one direction as events; side is "ask" or "reply"."""

    def __init__(self, side):
        self._side = side
        self._count = 0
        self._methods = []
        self._begin_message()

    def _begin_message(self):
        self._stage = "ahead"
        self._ends_ahead = 0
        self._half_end = False
        self._line = LineReader(self._side)
        self._first = ()
        self._fields = None
        self._chunks = None
        self._left = 0
        self._interim = False
        self._last = False

    @property
    def octets_read(self):
        return self._count

    def expect(self, method):
        """Tells the method of the next request that is to be answered."""
        if self._side != "reply":
            raise WrongUse("side")
        self._methods.append(method)

    def take(self, piece):
        """The events that these octets make certain."""
        events = []
        for octet in piece:
            if self._stage == "over":
                break
            word = self._step(octet, events)
            if word != "":
                events.append(("fault", word, self._count))
                self._stage = "over"
                break
            self._count += 1
        return joined(events)

    def finish(self):
        """The events of the end of the octets."""
        stage = self._stage
        self._stage = "over"
        if stage == "open":
            return [("end", ())]
        if stage == "over" or stage == "behind" or (stage == "ahead" and not self._half_end):
            return []
        return [("fault", "cut", self._count)]

    def _step(self, octet, events):
        """Takes one octet; returns the word of its fault, or an empty one."""
        if self._stage == "sized" or self._stage == "open":
            return self._take_body(octet, events)
        if self._stage == "chunked":
            return self._take_chunks(octet, events)
        if self._stage == "fields":
            return self._take_fields(octet, events)
        if self._stage == "line":
            return self._take_line(octet)
        if self._stage == "ahead":
            return self._take_ahead(octet)
        return "behind"

    def _take_ahead(self, octet):
        if self._half_end:
            self._half_end = False
            self._ends_ahead += 1
            return "" if octet == 10 else "line"
        if self._side == "ask" and octet == 13 and self._ends_ahead < MOST_ENDS_AHEAD:
            self._half_end = True
            return ""
        if self._side == "reply" and len(self._methods) == 0:
            return "unasked"
        self._stage = "line"
        return self._take_line(octet)

    def _take_line(self, octet):
        told = self._line.take(octet)
        if told is None:
            return ""
        if told[0] == "fault":
            return told[1]
        self._first = told[1]
        minor = self._first[-1]
        status = self._first[0] if self._side == "reply" else 0
        self._fields = FieldsReader(self._side, minor, status)
        self._stage = "fields"
        return ""

    def _take_fields(self, octet, events):
        told = self._fields.take(octet)
        if told is None:
            return ""
        if told[0] == "fault":
            return told[1]
        head = (self._side,) + self._first[:-1] + (told[1],)
        self._tell_head(head, self._first[-1], events)
        return ""

    def _tell_head(self, head, minor, events):
        method = "" if self._side == "ask" else self._methods[0]
        self._interim = is_interim(head)
        self._last = is_last(head, minor, method)
        events.append(("head", head))
        if waits(head, minor):
            events.append(("waits",))
        if self._last:
            events.append(("last",))
        self._begin_body(body_rule(head, method), events)

    def _begin_body(self, rule, events):
        if rule in (("none",), ("sized", 0)):
            self._end_message((), events)
            return
        self._stage = rule[0]
        if rule[0] == "sized":
            self._left = rule[1]
        elif rule[0] == "chunked":
            self._chunks = ChunkReader()

    def _take_body(self, octet, events):
        events.append(("body", (octet,)))
        if self._stage == "sized":
            self._left -= 1
            if self._left == 0:
                self._end_message((), events)
        return ""

    def _take_chunks(self, octet, events):
        told = self._chunks.take(octet)
        if told is None:
            return ""
        if told[0] == "fault":
            return told[1]
        if told[0] == "data":
            events.append(("body", (octet,)))
        else:
            self._end_message(told[1], events)
        return ""

    def _end_message(self, trailers, events):
        events.append(("end", trailers))
        if self._side == "reply" and not self._interim:
            self._methods.pop(0)
        if self._last:
            self._stage = "behind"
        else:
            self._begin_message()
