"""Ranges of a body, and what a part says of its place in the whole."""

from ownanswer.octets import is_digits, lower
from ownanswer.tokens import split_list

UNIT = "bytes="
PART_UNIT = "bytes "
MOST_DIGITS = 15
MOST_RANGES = 20


def _number(text):
    """The number of at most 15 digits, or None."""
    return int(text) if is_digits(text) and len(text) <= MOST_DIGITS else None


def _read_last(digits, size):
    """The pair (first, last) of the last octets, so many as the digits say, or None."""
    many = _number(digits)
    # The last 0 octets begin where the body ends.
    return None if many is None else (max(size - many, 0), size - 1)


def _read_range(element, size):
    """The pair (first, last) that `a-b`, `a-` or `-n` means, or None; it may lie behind the body."""
    left, minus, right = element.partition("-")
    if left == "":
        return _read_last(right, size)
    first = _number(left)
    last = size - 1 if right == "" else _number(right)
    if minus == "" or first is None or last is None:
        return None
    if right != "" and last < first:
        return None
    return (first, min(last, size - 1))


def read_ranges(value, size):
    """The list of the pairs (first, last) of the ranges inside of the body, or None."""
    if lower(value[:len(UNIT)]) != UNIT:
        return None
    parts = split_list(value[len(UNIT):])
    if parts is None or not 1 <= len(parts) <= MOST_RANGES:
        return None
    found = [_read_range(part, size) for part in parts]
    return None if None in found else [(first, last) for first, last in found if first < size]


def joined_ranges(ranges):
    """The ranges ascending, with those that overlap or touch as one."""
    found = []
    for first, last in sorted(ranges):
        if len(found) > 0 and first <= found[-1][1] + 1:
            found[-1] = (found[-1][0], max(found[-1][1], last))
        else:
            found.append((first, last))
    return found


def write_content_range(first, last, size):
    """`bytes a-b/size`, or `bytes */size` with first None."""
    return f"{PART_UNIT}*/{size}" if first is None else f"{PART_UNIT}{first}-{last}/{size}"


def read_content_range(value):
    """(first, last, size), or (None, None, size), or None."""
    if not value.startswith(PART_UNIT):
        return None
    place, _, whole = value[len(PART_UNIT):].partition("/")
    size = _number(whole)
    if size is None:
        return None
    if place == "*":
        return (None, None, size)
    left, _, right = place.partition("-")
    first = _number(left)
    last = _number(right)
    if first is None or last is None:
        return None
    return (first, last, size) if first <= last < size else None
