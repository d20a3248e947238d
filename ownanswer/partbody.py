"""The body of an answer with several ranges."""

from ownanswer.octets import DIGITS, LINE_END, is_digit, to_octets
from ownanswer.ranges import write_content_range

MARK = "part"

# The octets of `--part`.
MARK_START = (45, 45, 112, 97, 114, 116)

# A body has fewer marks in it than there are numbers of so many digits.
MOST_DIGITS = 9


def _numbers_behind(body, at):
    """The texts of the digits that stand at this place, those of one digit and of more."""
    found = []
    text = ""
    for octet in body[at:at + MOST_DIGITS]:
        if not is_digit(octet):
            break
        text = text + DIGITS[octet - 48]
        found.append(text)
    return found


def free_mark(body):
    """`partK` with the least number K such that the body has no `--partK`."""
    taken = {}
    size = len(MARK_START)
    for at in range(len(body)):
        if body[at:at + size] == MARK_START:
            for text in _numbers_behind(body, at + size):
                taken[text] = True
    number = 0
    while str(number) in taken:
        number += 1
    return f"{MARK}{number}"


def _part(kind, body, first, last):
    """The octets of one range with its fields, behind its mark."""
    place = write_content_range(first, last, len(body))
    fields = to_octets("content-type: " + kind) + LINE_END + to_octets("content-range: " + place) + LINE_END
    return LINE_END + fields + LINE_END + body[first:last + 1] + LINE_END


def part_body(kind, body, ranges, mark):
    """The octets of all ranges, a mark ahead of each and one behind all."""
    start = to_octets(f"--{mark}")
    found = []
    for first, last in ranges:
        found.extend(start)
        found.extend(_part(kind, body, first, last))
    return tuple(found) + start + to_octets("--") + LINE_END
