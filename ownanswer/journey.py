"""Journeys: requests carried to a house, and its answers carried back."""

from ownanswer.client1 import Client1
from ownanswer.client2 import Client2
from ownanswer.line import Line
from ownanswer.plain import plain_request, plain_response
from ownanswer.server1 import Server1
from ownanswer.server2 import Server2


def ends(version):
    """A new client and a new server of version 1 or 2."""
    return (Client1(), Server1()) if version == 1 else (Client2(), Server2())


class Journey:
    """A client and a server of a version, the line between them, and a house that answers."""

    def __init__(self, version, house, sizes):
        self._client, self._server = ends(version)
        self._line = Line(self._client, self._server)
        self._house = house
        self._sizes = tuple(sizes)
        self._calls = 0
        # The methods of the requests, by the client's numbers.
        self._methods = []
        # The requests that the server was told, by its numbers, and the numbers of those without an answer.
        self._heard = []
        self._waiting = []
        self._order = []

    def ask(self, request):
        """Asks the plain form of a request; returns its number."""
        asked = plain_request(request)
        number = self._client.ask(asked)
        self._methods.append(asked[0])
        return number

    def carry(self):
        """Carries at most the next one of the sizes; returns the number of octets moved."""
        size = self._sizes[self._calls % len(self._sizes)]
        self._calls += 1
        moved = self._line.carry(size)
        for number, request in self._server.asked():
            self._heard.append(plain_request(request))
            self._waiting.append(number)
        return moved

    def waiting(self):
        """The server's numbers of the requests without an answer, in the order in which they were told."""
        return tuple(self._waiting)

    def serve(self, k, now):
        """Lets the house answer one of the waiting requests; returns its number, or -1."""
        if len(self._waiting) == 0:
            return -1
        number = self._waiting.pop(k % len(self._waiting))
        request = self._heard[number]
        response = self._house.answer(request, now)
        # Fields of the line are the ends' own matter, not the house's.
        self._server.answer(number, plain_response(response, request[0]))
        self._order.append(number)
        return number

    def settle(self, now):
        """Carries and serves until all is still; returns the number of calls of carry."""
        calls = 0
        idle = 0
        while idle < 2:
            moved = self.carry()
            calls += 1
            served = self.serve(0, now)
            idle = idle + 1 if moved == 0 and served < 0 else 0
        return calls

    def order(self):
        """The numbers in the order in which they were served."""
        return tuple(self._order)

    def heard(self):
        """The list of the plain requests that the server was told, by its numbers."""
        return list(self._heard)

    def answers(self):
        """The list of (number, plain response) of the client since the last call."""
        return [(number, self._plain(number, response)) for number, response in self._client.answers()]

    def is_over(self):
        return self._client.is_over()

    def _plain(self, number, response):
        """The plain form of an answer; a fault stays as it is."""
        return response if response[0] == "fault" else plain_response(response, self._methods[number])
