"""Unpacking blocks into head lists."""

from ownanswer.codes import decoded_or_none
from ownanswer.errors import HeadFault
from ownanswer.movingtable import MovingTable
from ownanswer.prefixints import read_int

MOST_ROOMS = 2


def _read_string(octets, at):
    """(string, index behind) of the string whose length begins at this index."""
    size, begin = read_int(octets, at, 7)
    end = begin + size
    if end > len(octets):
        raise HeadFault("short", len(octets))
    row = octets[begin:end]
    if octets[at] < 128:
        return (row, end)
    plain = decoded_or_none(row)
    if plain is None:
        raise HeadFault("code", at)
    return (plain, end)


def _is_room(octet):
    """True for the first octet of a new room."""
    return 32 <= octet < 64


class Unpacker:
    """One end's unpacking, with its table."""

    def __init__(self, limit):
        self._limit = limit
        self._table = MovingTable(limit)

    def unpack(self, octets):
        """The head list of a block."""
        block = tuple(octets)
        at = self._read_rooms(block)
        pairs = []
        while at < len(block):
            if block[at] >= 128:
                number, behind = read_int(block, at, 7)
                pair = self._row(number, at)
            else:
                pair, behind = self._read_pair(block, at)
            pairs.append(pair)
            at = behind
        return pairs

    def set_limit(self, limit):
        """Changes the limit alone: the next block must bring a room that keeps it."""
        self._limit = limit

    def table(self):
        return self._table

    def _read_rooms(self, block):
        """Takes the new rooms in front of a block; returns the index behind them."""
        if len(block) > 0 and self._table.room() > self._limit and not _is_room(block[0]):
            raise HeadFault("room", 0)
        at = 0
        count = 0
        while at < len(block) and _is_room(block[at]):
            # Of one room too many the first octet is wrong, whatever stands behind it.
            if count == MOST_ROOMS:
                raise HeadFault("room", at)
            room, behind = read_int(block, at, 5)
            if room > self._limit:
                raise HeadFault("room", at)
            count += 1
            self._table.resize(room)
            at = behind
        return at

    def _row(self, number, at):
        """The row of this number for the part at this index."""
        row = self._table.row(number)
        if row is None:
            raise HeadFault("row", at)
        return row

    def _read_pair(self, block, at):
        """(pair, index behind) of a part with a string; the pair is added if the part says so."""
        if _is_room(block[at]):
            raise HeadFault("room", at)
        added = block[at] >= 64
        number, behind = read_int(block, at, 6 if added else 4)
        if number > 0:
            name = self._row(number, at)[0]
        else:
            name, behind = _read_string(block, behind)
        value, behind = _read_string(block, behind)
        if added:
            self._table.add(name, value)
        return ((name, value), behind)
