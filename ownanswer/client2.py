"""The client's end of a line of version two."""

from ownanswer.errors import WrongUse
from ownanswer.gathering2 import MALFORMED, Gathering2
from ownanswer.heads2 import ask_pairs, trailer_pairs
from ownanswer.link2 import Link


class Client2:
    """Asks each request on a stream of its own and tells the answers by number."""

    def __init__(self):
        self._link = Link("client")
        self._asked = 0
        # The messages that are not complete, by their streams.
        self._gatherings = {}
        self._found = []
        self._is_shut = False

    def ask(self, request):
        """Puts a request on the next stream and returns its number."""
        if self.is_over():
            raise WrongUse("over")
        method, target, fields, body, trailers = request
        number = self._asked
        self._asked += 1
        has_body = len(body) > 0
        has_trailers = len(trailers) > 0
        stream = self._link.start(ask_pairs(("ask", method, target, fields)), not has_body and not has_trailers)
        self._gatherings[stream] = Gathering2("reply", method)
        if has_body:
            self._link.body(stream, body, not has_trailers)
        if has_trailers:
            self._link.head(stream, trailer_pairs(trailers), True)
        # A stream may be lost at once.
        self._deal_with_events()
        return number

    def give(self, most):
        """Takes away the first octets that are to be sent, at most so many."""
        return self._link.give(most)

    def take(self, piece):
        """Reads octets of answers."""
        for _ in self._link.each(piece):
            self._deal_with_events()

    def answers(self):
        """The list of (number, response) since the last call."""
        found = self._found
        self._found = []
        return found

    def shut(self):
        """The other end sends no more."""
        self._is_shut = True
        self._link.shut()
        self._deal_with_events()

    def is_over(self):
        return self._is_shut or self._link.is_over()

    def _deal_with_events(self):
        for event in self._link.events():
            # A fault of the line has reset the streams before it is told.
            if event[0] != "fault" and event[1] in self._gatherings:
                self._deal_with(event)

    def _deal_with(self, event):
        stream = event[1]
        if event[0] == "reset":
            self._answer(stream, ("fault", event[2]))
            return
        told = self._gatherings[stream].take(event)
        if told == MALFORMED:
            self._link.reset(stream, "value")
            self._answer(stream, ("fault", "value"))
        elif told is not None:
            self._answer(stream, told[1])

    def _answer(self, stream, response):
        del self._gatherings[stream]
        self._found.append((stream // 2, response))
