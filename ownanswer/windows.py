"""Windows: how many octets may still be sent."""

MOST_SIZE = 2147483647


class Window:
    """A size that may be negative."""

    def __init__(self, size):
        self._size = size

    def size(self):
        return self._size

    def room(self):
        """How many octets may be sent now."""
        return max(self._size, 0)

    def use(self, count):
        """Takes so many octets away; False, and nothing is changed, if the room is less."""
        if count > self.room():
            return False
        self._size -= count
        return True

    def grow(self, amount):
        """Adds what the other end allows; False, and nothing is changed, if that would be too much."""
        return self.shift(amount)

    def shift(self, amount):
        """Adds an amount that may be negative; False, and nothing is changed, if that would be too much."""
        if self._size + amount > MOST_SIZE:
            return False
        self._size += amount
        return True
