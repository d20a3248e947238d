"""Octets that are put out and wait until they are taken away."""


class Outbox:
    """A row of octets: put behind the others, given from the front."""

    def __init__(self):
        self._octets = []
        self._given = 0

    def put(self, octets):
        self._octets.extend(octets)

    def size(self):
        """How many octets wait."""
        return len(self._octets) - self._given

    def give(self, most):
        """Takes away and returns the first octets, at most so many."""
        piece = tuple(self._octets[self._given:self._given + most])
        self._given += len(piece)
        # Cutting off the front each time would make small pieces slow.
        if self._given * 2 > len(self._octets):
            self._octets = self._octets[self._given:]
            self._given = 0
        return piece
