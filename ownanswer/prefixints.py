"""Integers that begin in the lowest bits of an octet."""

from ownanswer.errors import HeadFault

MOST_INT = 2147483647
MOST_BEHIND = 5


def write_int(n, value, first):
    """The octets of an integer in the n lowest bits; first has the higher ones."""
    most = (1 << n) - 1
    if value < most:
        return [first + value]
    found = [first + most]
    rest = value - most
    while rest > 127:
        found.append(128 + (rest & 127))
        rest = rest >> 7
    found.append(rest)
    return found


def read_int(octets, at, n):
    """(value, index behind) of the integer that begins in the n lowest bits at this index."""
    if at >= len(octets):
        raise HeadFault("short", len(octets))
    most = (1 << n) - 1
    value = octets[at] & most
    if value < most:
        return (value, at + 1)
    for behind in range(MOST_BEHIND):
        place = at + 1 + behind
        if place >= len(octets):
            raise HeadFault("short", len(octets))
        value += (octets[place] & 127) << (7 * behind)
        if value > MOST_INT:
            break
        if octets[place] < 128:
            return (value, place + 1)
    raise HeadFault("number", at)
