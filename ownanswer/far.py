"""An origin behind a line."""

from ownanswer.journey import Journey

FAILED = (502, (), (), ())


class Far:
    """Asks a house by journeys; a new one begins when the one before is over."""

    def __init__(self, version, house, sizes):
        self._version = version
        self._house = house
        self._sizes = tuple(sizes)
        self._journey = None
        self._journeys = 0

    def answer(self, request, now):
        """The house's answer, or 502 for a fault."""
        if self._journey is None or self._journey.is_over():
            self._journey = Journey(self._version, self._house, self._sizes)
            self._journeys += 1
        number = self._journey.ask(request)
        self._journey.settle(now)
        for found, response in self._journey.answers():
            if found == number and response[0] != "fault":
                return response
        return FAILED

    def journeys(self):
        """How many journeys have begun."""
        return self._journeys
