"""Packing head lists into blocks."""

from ownanswer.codes import coded, coded_length
from ownanswer.movingtable import MovingTable
from ownanswer.prefixints import write_int

ROW_BITS = 128
ADDED_BITS = 64
ROOM_BITS = 32
NEVER_BITS = 16
CODED_BITS = 128


def _write_string(octets, coding):
    """A string; coding is 0 to code it if that makes it shorter, 1 to code it, 2 not to."""
    if coding == 1 or (coding == 0 and coded_length(octets) < len(octets)):
        row = coded(octets)
        return write_int(7, len(row), CODED_BITS) + list(row)
    return write_int(7, len(octets), 0) + list(octets)


def _write_pair(pair, number, way, coding):
    """A pair whose name has the row of this number, or none for 0; way is 0 and 3 to add it, 1 not to, 2 never to."""
    if way == 0 or way == 3:
        found = write_int(6, number, ADDED_BITS)
    else:
        found = write_int(4, number, NEVER_BITS if way == 2 else 0)
    if number == 0:
        found.extend(_write_string(pair[0], coding))
    found.extend(_write_string(pair[1], coding))
    return found


class Packer:
    """One end's packing, with its table."""

    def __init__(self, limit):
        self._limit = limit
        self._table = MovingTable(limit)
        # The rooms that were set since the last block: the least one, and whether there was one.
        self._least = limit
        self._is_set = False

    def pack(self, pairs, *, choices=()):
        """The block of a head list; choices say in turn how each pair is written."""
        found = self._write_rooms()
        for at, pair in enumerate(pairs):
            choice = choices[at % len(choices)] if len(choices) > 0 else 0
            found.extend(self._write_part(pair, choice))
        return tuple(found)

    def set_room(self, room):
        """Changes the room of the table, up to the limit; the next block tells it."""
        bounded = min(room, self._limit)
        self._least = min(bounded, self._least) if self._is_set else bounded
        self._is_set = True
        self._table.resize(bounded)

    def set_limit(self, limit):
        """The limit that the other end told."""
        self._limit = limit
        if self._table.room() > limit:
            self.set_room(limit)

    def table(self):
        return self._table

    def _write_rooms(self):
        """The new rooms that stand in front of a block."""
        if not self._is_set:
            return []
        self._is_set = False
        room = self._table.room()
        first = write_int(5, self._least, ROOM_BITS) if self._least < room else []
        return first + write_int(5, room, ROOM_BITS)

    def _write_part(self, pair, choice):
        """One pair; the table is changed if it is added."""
        name, value = pair
        same, named = self._table.find(name, value)
        way = choice % 4
        if same > 0 and way < 2:
            return write_int(7, same, ROW_BITS)
        number = named if choice // 4 % 2 == 0 else 0
        found = _write_pair(pair, number, way, choice // 8 % 3)
        if way == 0 or way == 3:
            self._table.add(name, value)
        return found
