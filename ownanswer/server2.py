"""The server's end of a line of version two."""

from ownanswer.errors import WrongUse
from ownanswer.gathering2 import MALFORMED, Gathering2
from ownanswer.heads2 import reply_pairs, trailer_pairs
from ownanswer.lengths import has_bare_status
from ownanswer.link2 import Link


class Server2:
    """Tells requests as they are complete, and puts out each answer on the stream of its request."""

    def __init__(self):
        self._link = Link("server")
        # The messages that are not complete, by their streams.
        self._gatherings = {}
        self._complete = 0
        self._new = []
        # (method, stream) of the requests that were told and are not answered.
        self._told = {}

    def take(self, piece):
        """Reads octets of requests."""
        for _ in self._link.each(piece):
            self._deal_with_events()

    def asked(self):
        """The list of (number, request) since the last call."""
        found = []
        for number, stream, request in self._new:
            self._told[number] = (request[0], stream)
            found.append((number, request))
        self._new = []
        return found

    def answer(self, number, response):
        """Answers a request that was told."""
        if number not in self._told:
            raise WrongUse("number")
        method, stream = self._told.pop(number)
        status, fields, body, trailers = response
        has_body = len(body) > 0 and method != "HEAD" and not has_bare_status(status)
        has_trailers = len(trailers) > 0
        self._link.head(stream, reply_pairs(("reply", status, fields)), not has_body and not has_trailers)
        if has_body:
            self._link.body(stream, body, not has_trailers)
        if has_trailers:
            self._link.head(stream, trailer_pairs(trailers), True)

    def give(self, most):
        """Takes away the first octets that are to be sent, at most so many."""
        return self._link.give(most)

    def shut(self):
        """No more octets come; a request that is not complete is left out."""
        self._link.shut()

    def is_over(self):
        return self._link.is_over()

    def _deal_with_events(self):
        for event in self._link.events():
            if event[0] == "head" and event[1] not in self._gatherings:
                self._gatherings[event[1]] = Gathering2("ask", "")
            if event[0] != "fault" and event[1] in self._gatherings:
                self._deal_with(event)

    def _deal_with(self, event):
        stream = event[1]
        told = MALFORMED if event[0] == "reset" else self._gatherings[stream].take(event)
        if told is None:
            return
        del self._gatherings[stream]
        if told == MALFORMED:
            # Of a stream that is reset already nothing is put out.
            self._link.reset(stream, "value")
        else:
            self._new.append((self._complete, stream, told[1]))
            self._complete += 1
