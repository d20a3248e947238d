"""What several tests use: octets from strings, and pieces of many sizes."""

import random

from ownanswer.octets import joined
from ownanswer.reader import Reader


def octets(text):
    """The octets of a Python string, whatever its characters below 256 are."""
    return tuple(text.encode("latin-1"))


def string(row):
    """The Python string of octets."""
    return bytes(row).decode("latin-1")


def lines(*rows):
    """Rows with a line end behind each, and an empty line behind all."""
    return octets("".join(row + "\r\n" for row in rows) + "\r\n")


def uneven(row, seed):
    """Octets cut into pieces of uneven sizes, empty ones too."""
    chance = random.Random(seed)
    pieces = []
    at = 0
    while at < len(row):
        size = chance.choice((0, 1, 1, 2, 3, 5, 8, 40, 300))
        pieces.append(row[at:at + size])
        at += size
    return pieces


def new_reader(side, methods=()):
    reader = Reader(side)
    for method in methods:
        reader.expect(method)
    return reader


def told(side, pieces, methods=(), finish=False):
    """The joined events of a new reader for these pieces."""
    reader = new_reader(side, methods)
    events = []
    for piece in pieces:
        events.extend(reader.take(piece))
    if finish:
        events.extend(reader.finish())
    return joined(events)


def told_alike(case, side, row, methods=(), finish=False):
    """The events of the octets in one piece; the same are told in other pieces."""
    events = told(side, [row], methods, finish)
    case.assertEqual(told(side, [(octet,) for octet in row], methods, finish), events)
    case.assertEqual(told(side, [list(piece) for piece in uneven(row, len(row))], methods, finish), events)
    return events


def fed(reader, row):
    """The answers of a reader of single octets: (how many octets it took, its first answer)."""
    for at, octet in enumerate(row):
        answer = reader.take(octet)
        if answer is not None:
            return (at + 1, answer)
    return (len(row), None)
