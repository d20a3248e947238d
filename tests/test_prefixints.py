import itertools
import random
import unittest

from ownanswer.errors import HeadFault
from ownanswer.prefixints import read_int, write_int

MOST = 2 ** 31 - 1


def second_write(n, value, first):
    most = 2 ** n - 1
    if value < most:
        return [first + value]
    digits = []
    rest = value - most
    while True:
        digits.append(rest % 128)
        rest //= 128
        if rest == 0:
            break
    return [first + most] + [digit + 128 for digit in digits[:-1]] + digits[-1:]


def second_read(octets, at, n):
    """(value, index behind) or (word, at), by looking at the row that stands there as a whole."""
    if at >= len(octets):
        return ("short", len(octets))
    most = 2 ** n - 1
    value = octets[at] % 2 ** n
    if value < most:
        return (value, at + 1)
    for count in range(1, 7):
        row = octets[at + 1:at + 1 + count]
        if len(row) < count:
            return ("short", len(octets))
        value = most + sum(octet % 128 * 128 ** place for place, octet in enumerate(row))
        if value > MOST or (count == 5 and row[-1] > 127):
            return ("number", at)
        if row[-1] < 128:
            return (value, at + 1 + count)


def read(octets, at, n):
    try:
        return read_int(octets, at, n)
    except HeadFault as fault:
        return (fault.word, fault.at)


VALUES = sorted({max(0, base + shift) for base in (0, 1, 3, 7, 15, 31, 63, 127, 128, 255, 256, 383, 16384, 16511, 2097152, 268435456, MOST)
                 for shift in range(-3, 4) if base + shift <= MOST} | {128 ** place + 2 ** n - 1 + shift for place in (1, 2, 3, 4)
                                                                        for n in range(1, 9) for shift in (-1, 0, 1)})


class WriteTest(unittest.TestCase):
    def test_examples(self):
        self.assertEqual(write_int(5, 1000, 0), [31, 201, 7])
        self.assertEqual(write_int(4, 9, 64), [73])

    def test_bounds(self):
        for n, value, wanted in (
            (1, 0, [0]), (1, 1, [1, 0]), (1, 2, [1, 1]), (1, 128, [1, 127]), (1, 129, [1, 128, 1]), (5, 30, [30]), (5, 31, [31, 0]),
            (5, 158, [31, 127]), (5, 159, [31, 128, 1]), (8, 254, [254]), (8, 255, [255, 0]), (8, 256, [255, 1]), (8, 383, [255, 128, 1]),
            (7, 127, [127, 0]), (7, 16510, [127, 255, 127]), (7, 16511, [127, 128, 128, 1]), (8, MOST, [255, 128, 254, 255, 255, 7]),
            (1, MOST, [1, 254, 255, 255, 255, 7]),
        ):
            self.assertEqual(write_int(n, value, 0), wanted, (n, value))
            self.assertIsInstance(write_int(n, value, 0), list)

    def test_each_width_and_the_higher_bits(self):
        for n in range(1, 9):
            for first in range(0, 256, 2 ** n):
                for value in VALUES:
                    row = write_int(n, value, first)
                    self.assertEqual(row, second_write(n, value, first), (n, value, first))
                    self.assertEqual(read_int(row, 0, n), (value, len(row)))


class ReadTest(unittest.TestCase):
    def test_octets_ahead_and_behind(self):
        chance = random.Random(1)
        for _ in range(3000):
            n = chance.randrange(1, 9)
            value = chance.choice((chance.choice(VALUES), chance.randrange(MOST + 1), chance.randrange(300)))
            row = write_int(n, value, chance.randrange(2 ** (8 - n)) << n)
            ahead = [chance.randrange(256) for _ in range(chance.randrange(4))]
            behind = [chance.randrange(256) for _ in range(chance.randrange(4))]
            octets = ahead + row + behind
            for given in (octets, tuple(octets)):
                self.assertEqual(read_int(given, len(ahead), n), (value, len(ahead) + len(row)))
            self.assertEqual(octets, ahead + row + behind)

    def test_needless_digits(self):
        for row, n, wanted in (
            ((31, 128, 0), 5, (31, 3)), ((31, 128, 128, 128, 128, 0), 5, (31, 6)), ((31, 129, 0), 5, (32, 3)), ((31, 129, 128, 0), 5, (32, 4)),
            ((255, 201, 135, 128, 128, 0), 8, (1224, 6)), ((1, 128, 0, 9), 1, (1, 3)), ((255, 128, 128, 128, 128, 128), 8, ("number", 0)),
            ((255, 128, 128, 128, 128, 128, 0), 8, ("number", 0)), ((31, 128, 128, 128, 128, 128), 5, ("number", 0)),
        ):
            self.assertEqual(read(row, 0, n), wanted, row)

    def test_number(self):
        for row, n, wanted in (
            ((255, 128, 254, 255, 255, 7), 8, (MOST, 6)), ((255, 129, 254, 255, 255, 7), 8, ("number", 0)),
            ((1, 254, 255, 255, 255, 7), 1, (MOST, 6)), ((1, 255, 255, 255, 255, 7), 1, ("number", 0)),
            ((255, 128, 254, 255, 255, 8), 8, ("number", 0)), ((255, 128, 254, 255, 255, 135), 8, ("number", 0)),
            ((255, 128, 128, 128, 128, 8), 8, ("number", 0)), ((255, 128, 128, 128, 128, 127), 8, ("number", 0)),
            ((255, 0, 255, 255, 255, 255, 255), 8, (255, 2)), ((9, 255, 255, 255, 255, 255), 8, (9, 1)),
            # It is found at the fifth octet, without another one.
            ((1, 255, 255, 255, 255, 135), 1, ("number", 0)), ((1, 128, 128, 128, 128, 136), 1, ("number", 0)),
        ):
            self.assertEqual(read(row, 0, n), wanted, row)
            moved = wanted if wanted[0] == "number" else (wanted[0], wanted[1])
            self.assertEqual(read((7, 7, 7) + row, 3, n), (moved[0], moved[1] + 3), row)

    def test_short(self):
        for n in range(1, 9):
            self.assertEqual(read((), 0, n), ("short", 0))
            self.assertEqual(read((1, 2), 2, n), ("short", 2))
            for value in VALUES:
                row = tuple(write_int(n, value, 0))
                for size in range(len(row)):
                    self.assertEqual(read(row[:size], 0, n), ("short", size), (n, value, size))
                    self.assertEqual(read((9,) + row[:size], 1, n), ("short", size + 1), (n, value, size))
        self.assertEqual(read((255, 255, 255, 255, 255), 0, 8), ("short", 5))

    def test_every_short_row(self):
        for n in (1, 4, 8):
            for length in range(7):
                for tail in itertools.product((0, 7, 8, 127, 128, 255), repeat=max(0, length - 1)):
                    for head in ((2 ** n - 1, 255) if length > 0 else ()):
                        row = (head,) + tail
                        self.assertEqual(read(row, 0, n), second_read(row, 0, n), (row, n))


if __name__ == "__main__":
    unittest.main()
