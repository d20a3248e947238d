"""The client's end of a line of version one."""

from ownanswer.errors import WrongUse
from ownanswer.gathering import Gathering
from ownanswer.lengths import has_close
from ownanswer.outbox import Outbox
from ownanswer.reader import Reader
from ownanswer.writer import write_request


class Client1:
    """Asks requests one behind the other and tells their answers by number."""

    def __init__(self):
        self._reader = Reader("reply")
        self._outbox = Outbox()
        self._gathering = Gathering()
        self._asked = 0
        self._answered = 0
        self._found = []
        self._has_said_close = False
        self._reads_last = False
        self._over = False

    def ask(self, request):
        """Puts out a request and returns its number."""
        if self._over or self._has_said_close:
            raise WrongUse("over")
        number = self._asked
        self._asked += 1
        self._has_said_close = has_close(request[2])
        self._reader.expect(request[0])
        self._outbox.put(write_request(request, None))
        return number

    def give(self, most):
        """Takes away the first octets that are to be sent, at most so many."""
        return self._outbox.give(most)

    def take(self, piece):
        """Reads octets of answers."""
        if self._over:
            return
        for event in self._reader.take(piece):
            self._deal_with(event)
            # What stands behind the last response is nobody's answer.
            if self._over:
                break

    def answers(self):
        """The list of (number, response) since the last call."""
        found = self._found
        self._found = []
        return found

    def shut(self):
        """The other end sends no more."""
        if self._over:
            return
        for event in self._reader.finish():
            # An answer that is cut off is no fault, only lost.
            if event[0] == "end":
                self._deal_with(event)
        if not self._over:
            self._finish("lost")

    def is_over(self):
        return self._over

    def _deal_with(self, event):
        if event[0] == "fault":
            self._finish(event[1])
            return
        if event[0] == "last":
            self._reads_last = True
            return
        response = self._gathering.take(event)
        if response is None or response[0] < 200:
            return
        self._answer(response)
        if self._reads_last:
            self._finish("lost")

    def _answer(self, response):
        self._found.append((self._answered, response))
        self._answered += 1

    def _finish(self, word):
        """Ends the line; word is for the first request without an answer."""
        self._over = True
        while self._answered < self._asked:
            self._answer(("fault", word))
            word = "lost"
