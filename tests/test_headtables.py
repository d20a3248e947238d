"""Both ends of head tables ([6.9]), and blocks read by a second way."""

import random
import unittest

from support import octets

from test_codes import WORDS

from ownanswer.errors import HeadFault
from ownanswer.packer import Packer
from ownanswer.statictable import FIXED
from ownanswer.unpacker import Unpacker

NAMES = [octets(name) for name, _ in FIXED] + [octets(name) for name in ("x", "y-z", "UP", "", "a" * 40)] + [(0, 255, 128)]
VALUES = [octets(value) for value in ("", "GET", "/", "http", "200", "aaaaaaaaaaaa", "AB{}", "v" * 50)] + [tuple(range(256)), (0,) * 300]
ROOMS = (0, 31, 32, 33, 40, 64, 70, 100, 200, 500, 1000, 4096)


class Fault(Exception):
    pass


class SecondUnpacker:
    """Unpacking once more: the block is cut from the front, rows are kept in one list."""

    def __init__(self, limit):
        self.limit = self.room = limit
        self.rows = []

    def unpack(self, block):
        self.whole = list(block)
        self.left = list(block)
        self.rooms = 0
        found = []
        while self.left:
            at = len(self.whole) - len(self.left)
            bits = f"{self.left[0]:08b}"
            if self.room > self.limit and not bits.startswith("001"):
                raise Fault("room", 0)
            if bits.startswith("1"):
                found.append(self.row(self.number(7), at))
            elif bits.startswith("001"):
                self.rooms += 1
                if found or self.rooms > 2:
                    raise Fault("room", at)
                room = self.number(5)
                if room > self.limit:
                    raise Fault("room", at)
                self.room = room
                self.drop()
            else:
                number = self.number(6 if bits.startswith("01") else 4)
                name = self.row(number, at)[0] if number else self.string()
                found.append((name, self.string()))
                if bits.startswith("01"):
                    self.rows.insert(0, found[-1])
                    self.drop()
        return found

    def drop(self):
        while sum(32 + len(name) + len(value) for name, value in self.rows) > self.room:
            self.rows.pop()

    def row(self, number, at):
        rows = [None] + [(octets(name), octets(value)) for name, value in FIXED] + self.rows
        if not 0 < number < len(rows):
            raise Fault("row", at)
        return rows[number]

    def one(self):
        if not self.left:
            raise Fault("short", len(self.whole))
        return self.left.pop(0)

    def number(self, n):
        at = len(self.whole) - len(self.left)
        value = self.one() % 2 ** n
        if value < 2 ** n - 1:
            return value
        for place in range(5):
            octet = self.one()
            value += octet % 128 * 128 ** place
            if value >= 2 ** 31:
                break
            if octet < 128:
                return value
        raise Fault("number", at)

    def string(self):
        at = len(self.whole) - len(self.left)
        is_coded = bool(self.left) and self.left[0] >= 128
        size = self.number(7)
        if size > len(self.left):
            raise Fault("short", len(self.whole))
        row = tuple(self.left[:size])
        del self.left[:size]
        if not is_coded:
            return row
        bits = "".join(f"{octet:08b}" for octet in row)
        turned = {word: octet for octet, word in WORDS.items()}
        found = []
        while True:
            word = next((bits[:size] for size in (5, 6, 8, 15, 16) if bits[:size] in turned), None)
            if word is None:
                if len(bits) > 7 or "0" in bits:
                    raise Fault("code", at)
                return tuple(found)
            if turned[word] == 256:
                raise Fault("code", at)
            found.append(turned[word])
            bits = bits[len(word):]


def told(unpacker, block):
    try:
        return unpacker.unpack(block)
    except HeadFault as fault:
        return (fault.word, fault.at)
    except Fault as fault:
        return fault.args


def random_pairs(chance):
    return [(chance.choice(NAMES), chance.choice(VALUES)) for _ in range(chance.randrange(8))]


def random_choices(chance):
    return tuple(chance.randrange(48) for _ in range(chance.randrange(5)))


class BothEndsTest(unittest.TestCase):
    def are_equal(self, packer, unpacker):
        one, two = packer.table(), unpacker.table()
        self.assertEqual((one.rows(), one.room(), one.size()), (two.rows(), two.room(), two.size()))

    def test_each_choice(self):
        pairs = [(name, value) for name in NAMES for value in VALUES[:8]]
        for limit in (0, 50, 300, 4096):
            for choice in range(48):
                packer, unpacker = Packer(limit), Unpacker(limit)
                for _ in range(2):
                    self.assertEqual(unpacker.unpack(packer.pack(pairs, choices=(choice,))), pairs)
                    self.are_equal(packer, unpacker)

    def test_rows_of_blocks(self):
        chance = random.Random(21)
        for _ in range(150):
            limit = chance.choice(ROOMS)
            packer, unpacker, second = Packer(limit), Unpacker(limit), SecondUnpacker(limit)
            for _ in range(25):
                for _ in range(chance.choice((0, 0, 0, 1, 2, 3))):
                    packer.set_room(chance.choice(ROOMS))
                if chance.random() < 0.15:
                    limit = chance.choice(ROOMS)
                    packer.set_limit(limit)
                    unpacker.set_limit(limit)
                    second.limit = limit
                pairs = random_pairs(chance)
                block = packer.pack(pairs, choices=random_choices(chance))
                self.assertEqual(unpacker.unpack(block), pairs)
                self.are_equal(packer, unpacker)
                self.assertEqual(second.unpack(block), pairs)
                self.assertEqual(second.rows, unpacker.table().rows())

    def test_limits_between_blocks(self):
        packer, unpacker = Packer(4096), Unpacker(4096)
        pairs = [(octets("name"), octets("value")), (octets("other"), ())]
        for limit in (4096, 100, 40, 0, 60, 5000, 31, 4096):
            packer.set_limit(limit)
            unpacker.set_limit(limit)
            for room in (None, limit, 10 ** 6, 33):
                if room is not None:
                    packer.set_room(room)
                self.assertEqual(unpacker.unpack(packer.pack(pairs)), pairs)
                self.are_equal(packer, unpacker)
                self.assertLessEqual(packer.table().room(), limit)


class ChangedBlocksTest(unittest.TestCase):
    def changed(self, chance, block):
        row = list(block)
        for _ in range(chance.choice((0, 1, 1, 1, 2, 3))):
            at = chance.randrange(len(row) + 1)
            deed = chance.randrange(5)
            if deed == 0:
                del row[at:]
            elif deed == 1:
                row[at:at] = [chance.choice((0, 31, 32, 63, 64, 127, 128, 152, 200, 255))] + [255] * chance.choice((0, 0, 0, 6))
            elif deed == 2:
                del row[at:at + 1]
            elif at < len(row):
                row[at] = row[at] ^ (1 << chance.randrange(8)) if deed == 3 else chance.randrange(256)
        return row

    def test_by_a_second_way(self):
        chance = random.Random(22)
        words = {}
        for _ in range(2500):
            limit = chance.choice(ROOMS)
            packer, unpacker, second = Packer(limit), Unpacker(limit), SecondUnpacker(limit)
            for _ in range(2):
                if chance.random() < 0.3:
                    packer.set_room(chance.choice(ROOMS))
                if chance.random() < 0.1:
                    limit = chance.choice(ROOMS)
                    unpacker.set_limit(limit)
                    second.limit = limit
                block = self.changed(chance, packer.pack(random_pairs(chance), choices=random_choices(chance)))
                found = told(unpacker, block)
                self.assertEqual(found, told(second, block), block)
                self.assertEqual((unpacker.table().rows(), unpacker.table().room()), (second.rows, second.room), block)
                if isinstance(found, tuple):
                    words[found[0]] = words.get(found[0], 0) + 1
                    break
        self.assertEqual(sorted(words), ["code", "number", "room", "row", "short"])

    def test_rows_of_chance(self):
        chance = random.Random(23)
        for _ in range(3000):
            unpacker, second = Unpacker(100), SecondUnpacker(100)
            block = [chance.choice((0, 1, 2, 64, 65, 129, 152, 33, 255, chance.randrange(256))) for _ in range(chance.randrange(12))]
            self.assertEqual(told(unpacker, block), told(second, block), block)
            self.assertEqual(unpacker.table().rows(), second.rows)


if __name__ == "__main__":
    unittest.main()
