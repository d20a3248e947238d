"""Turns: whose octets go next."""

WHOLE_STRIDE = 65536


class Turns:
    """Streams with weights; the marks tell when each has its turn."""

    def __init__(self):
        self._clock = 0
        self._strides = {}
        self._marks = {}

    def add(self, stream, weight):
        self._marks[stream] = self._clock
        self.set_weight(stream, weight)

    def remove(self, stream):
        del self._marks[stream]
        del self._strides[stream]

    def set_weight(self, stream, weight):
        """Changes a weight; the mark stays."""
        self._strides[stream] = WHOLE_STRIDE // weight

    def choose(self, ready):
        """The stream that has its turn among these ascending ones."""
        for stream in ready:
            # Only a stream that was not ready in the call before can be behind the clock.
            self._marks[stream] = max(self._marks[stream], self._clock)
        chosen = ready[0]
        for stream in ready:
            if self._marks[stream] < self._marks[chosen]:
                chosen = stream
        self._clock = self._marks[chosen]
        self._marks[chosen] += self._strides[chosen]
        return chosen

    def mark(self, stream):
        return self._marks[stream]

    def known(self):
        """The ascending list of the streams."""
        return sorted(self._marks)

    def clock(self):
        return self._clock
