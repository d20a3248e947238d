"""The table of an end: the fixed rows, and behind them the moving ones, the newest first."""

from ownanswer.statictable import FIXED, fixed_row

ROW_COST = 32


def _cost(row):
    """The size of a row."""
    return ROW_COST + len(row[0]) + len(row[1])


class MovingTable:
    """Rows whose sizes are together at most the room."""

    def __init__(self, room):
        self._room = room
        self._size = 0
        # The oldest row first; each has the number of the rows that came before it as its serial.
        self._rows = []
        self._dropped = 0
        # The serials of the newest row that equals a pair, and of the newest one with a name.
        self._pair_serials = {}
        self._name_serials = {}
        self._fixed_pairs = {}
        self._fixed_names = {}
        for number in range(1, len(FIXED) + 1):
            row = fixed_row(number)
            self._fixed_pairs.setdefault(row, number)
            self._fixed_names.setdefault(row[0], number)

    def add(self, name, value):
        """Adds a row in front, if it fits at all; drops rows from the back for it."""
        row = (tuple(name), tuple(value))
        cost = _cost(row)
        self._shrink(self._room - cost)
        if cost > self._room:
            return
        serial = self._dropped + len(self._rows)
        self._rows.append(row)
        self._size += cost
        self._pair_serials[row] = serial
        self._name_serials[row[0]] = serial

    def resize(self, room):
        """Changes the room; drops rows from the back until the rest fits."""
        self._room = room
        self._shrink(room)

    def row(self, number):
        """The row with this number, fixed or moving, or None."""
        if number <= len(FIXED):
            return fixed_row(number)
        at = len(self._rows) + len(FIXED) - number
        return self._rows[at] if at >= 0 else None

    def find(self, name, value):
        """(i, j): the least row that equals the pair, and the least one with its name; 0 where there is none."""
        row = (tuple(name), tuple(value))
        return (
            self._least(self._fixed_pairs.get(row), self._pair_serials.get(row)),
            self._least(self._fixed_names.get(row[0]), self._name_serials.get(row[0])),
        )

    def rows(self):
        """A new list of the moving rows, the newest first."""
        return self._rows[::-1]

    def room(self):
        return self._room

    def size(self):
        """The sum of the sizes of the moving rows."""
        return self._size

    def _least(self, fixed, serial):
        """The number of a fixed row or, without one, of the row with this serial."""
        if fixed is not None:
            return fixed
        if serial is None:
            return 0
        return len(FIXED) + self._dropped + len(self._rows) - serial

    def _shrink(self, most):
        """Drops rows from the back until the others are not larger than this, or none is left."""
        count = 0
        while count < len(self._rows) and self._size > most:
            self._forget(self._rows[count], self._dropped + count)
            count += 1
        del self._rows[:count]
        self._dropped += count

    def _forget(self, row, serial):
        """Takes a row that is dropped out of what is counted and found."""
        self._size -= _cost(row)
        if self._pair_serials[row] == serial:
            del self._pair_serials[row]
        if self._name_serials[row[0]] == serial:
            del self._name_serials[row[0]]
