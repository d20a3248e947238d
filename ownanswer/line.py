"""A line that carries octets between a client and a server."""


class Line:
    """Joins a client and a server."""

    def __init__(self, client, server):
        self._client = client
        self._server = server
        self._to_server = True
        self._carried = 0

    @property
    def carried(self):
        return self._carried

    def carry(self, size):
        """Moves at most size octets in the direction whose turn it is; returns how many."""
        giver = self._client if self._to_server else self._server
        taker = self._server if self._to_server else self._client
        self._to_server = not self._to_server
        piece = giver.give(size)
        taker.take(piece)
        self._carried += len(piece)
        return len(piece)


def flow(line, sizes, most):
    """Carries until two calls behind one another move nothing; returns the number of calls."""
    calls = 0
    idle = 0
    while calls < most and idle < 2:
        moved = line.carry(sizes[calls % len(sizes)])
        calls += 1
        idle = idle + 1 if moved == 0 else 0
    return calls
