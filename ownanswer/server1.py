"""The server's end of a line of version one."""

from ownanswer.errors import WrongUse
from ownanswer.gathering import Gathering
from ownanswer.lengths import has_close
from ownanswer.outbox import Outbox
from ownanswer.reader import Reader
from ownanswer.writer import write_response

CLOSE = (("connection", "close"),)
FAULT_STATUSES = {"version": 505, "coding": 501, "length": 411}


class Server1:
    """Tells requests by number and puts out their answers in this order."""

    def __init__(self):
        self._reader = Reader("ask")
        self._outbox = Outbox()
        self._gathering = Gathering()
        self._complete = 0
        self._reads_last = False
        self._new = []
        self._open_numbers = {}
        self._interims = {}
        self._written = {}
        self._put_out = 0
        self._over = False

    def take(self, piece):
        """Reads octets of requests."""
        if self._over:
            return
        for event in self._reader.take(piece):
            self._deal_with(event)

    def asked(self):
        """The list of (number, request) since the last call."""
        told = []
        for number, request, last in self._new:
            self._open_numbers[number] = (request[0], last)
            told.append((number, request))
        self._new = []
        return told

    def answer(self, number, response):
        """Answers a request that was told."""
        if number not in self._open_numbers:
            raise WrongUse("number")
        method, last = self._open_numbers.pop(number)
        status, fields, body, trailers = response
        closes = has_close(fields)
        if last and not closes:
            fields = tuple(fields) + CLOSE
        octets = write_response((status, fields, body, trailers), method, None)
        self._written[number] = (octets, last or closes)
        self._put_out_ready()

    def give(self, most):
        """Takes away the first octets that are to be sent, at most so many."""
        return self._outbox.give(most)

    def shut(self):
        """No more octets come; a request that is not complete is left out."""
        self._reader.finish()

    def is_over(self):
        return self._over

    def _deal_with(self, event):
        if event[0] == "fault":
            self._answer_fault(event[1])
        elif event[0] == "waits":
            self._interims[self._complete] = True
            self._put_out_ready()
        elif event[0] == "last":
            self._reads_last = True
        else:
            self._gather(event)

    def _gather(self, event):
        request = self._gathering.take(event)
        if request is not None:
            self._new.append((self._complete, request, self._reads_last))
            self._complete += 1

    def _answer_fault(self, word):
        """The answer to a fault takes the number of the request that has it."""
        if word == "behind":
            return
        response = (FAULT_STATUSES.get(word, 400), CLOSE, (), ())
        self._written[self._complete] = (write_response(response, "", None), True)
        self._put_out_ready()

    def _put_out_ready(self):
        """Puts out what is there up to the first answer that is missing."""
        while not self._over:
            number = self._put_out
            if number in self._interims:
                del self._interims[number]
                self._outbox.put(write_response((100, (), (), ()), "", None))
            if number not in self._written:
                return
            octets, closes = self._written.pop(number)
            self._outbox.put(octets)
            self._put_out += 1
            self._over = closes
