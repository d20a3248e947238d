"""Chunked bodies: reading them octet by octet, and writing them."""

from ownanswer.heads import FieldsReader, field_octets
from ownanswer.octets import LINE_END, hex_digit, is_value_sign, to_octets

MOST_BODY = 99999
MOST_DIGITS = 4
MOST_EXTRA = 200

CHUNK_FAULT = ("fault", "chunk")


def write_chunks(body, sizes, trailers):
    """The octets of a chunked body, cut into chunks of these sizes in turn."""
    octets = []
    at = 0
    turn = 0
    while at < len(body):
        data = body[at:at + sizes[turn % len(sizes)]]
        octets.extend(to_octets(f"{len(data):x}"))
        octets.extend(LINE_END)
        octets.extend(data)
        octets.extend(LINE_END)
        at += len(data)
        turn += 1
    octets.extend(to_octets("0"))
    octets.extend(LINE_END)
    octets.extend(field_octets(trailers))
    return tuple(octets)


class ChunkReader:
    """Reads one chunked body and its trailers."""

    def __init__(self):
        self._stage = "size"
        self._size = 0
        self._count = 0
        self._total = 0
        self._trailers = FieldsReader("trailer", 1, 0)

    def take(self, octet):
        """None, ("data", octet), ("end", trailers) or ("fault", word)."""
        if self._stage == "data":
            return self._take_data(octet)
        if self._stage == "size":
            return self._take_size(octet)
        if self._stage == "extra":
            return self._take_extra(octet)
        if self._stage == "trailers":
            return self._take_trailers(octet)
        return self._take_line_end(octet)

    def _take_size(self, octet):
        digit = hex_digit(octet)
        if digit == -1:
            return self._take_behind_size(octet)
        self._size = self._size * 16 + digit
        self._count += 1
        if self._count > MOST_DIGITS or self._total + self._size > MOST_BODY:
            return CHUNK_FAULT
        return None

    def _take_behind_size(self, octet):
        if self._count == 0 or (octet != 59 and octet != 13):
            return CHUNK_FAULT
        self._stage = "extra" if octet == 59 else "size end"
        self._count = 0
        return None

    def _take_extra(self, octet):
        if octet == 13:
            self._stage = "size end"
            return None
        if self._count == MOST_EXTRA or not is_value_sign(octet):
            return CHUNK_FAULT
        self._count += 1
        return None

    def _take_line_end(self, octet):
        """One of the octets of a line end, behind a size or behind the data."""
        if octet != (13 if self._stage == "data behind" else 10):
            return CHUNK_FAULT
        if self._stage == "data behind":
            self._stage = "data end"
        elif self._stage == "size end":
            self._begin_data()
        else:
            self._stage = "size"
        return None

    def _begin_data(self):
        self._stage = "trailers" if self._size == 0 else "data"
        self._total += self._size

    def _take_data(self, octet):
        self._size -= 1
        if self._size == 0:
            self._stage = "data behind"
            self._count = 0
        return ("data", octet)

    def _take_trailers(self, octet):
        told = self._trailers.take(octet)
        if told is not None and told[0] == "fields":
            return ("end", told[1])
        return told
