"""The fixed rows and the moving table ([6.5])."""

import random
import unittest

from support import octets

from ownanswer.movingtable import MovingTable
from ownanswer.statictable import FIXED, fixed_row

ROWS = (
    "1 :method GET; 2 :method PUT; 3 :method POST; 4 :path /; 5 :scheme http; 6 :authority; 7 :status 200; 8 :status 304; 9 :status 404; "
    "10 accept; 11 accept-language; 12 age; 13 cache-control; 14 content-length; 15 content-type; 16 date; 17 etag; 18 host; "
    "19 if-none-match; 20 last-modified; 21 location; 22 range; 23 vary")


def row(name, value=""):
    return (octets(name), octets(value))


def filled(room, *rows):
    table = MovingTable(room)
    for name, value in rows:
        table.add(name, value)
    return table


class FixedTest(unittest.TestCase):
    def test_the_rows_of_the_document(self):
        wanted = []
        for at, text in enumerate(ROWS.split("; ")):
            number, name, *value = text.split(" ")
            self.assertEqual(int(number), at + 1)
            wanted.append((name, "".join(value)))
        self.assertEqual(FIXED, tuple(wanted))
        self.assertEqual(len(FIXED), 23)

    def test_fixed_row(self):
        for number, (name, value) in enumerate(FIXED, 1):
            self.assertEqual(fixed_row(number), (octets(name), octets(value)))
        for number in (0, 24, 25, 1000, -1, -23):
            self.assertIsNone(fixed_row(number), number)


class RoomTest(unittest.TestCase):
    def test_a_new_table(self):
        for room in (0, 31, 32, 4096, 100000):
            table = MovingTable(room)
            self.assertEqual((table.rows(), table.size(), table.room()), ([], 0, room))

    def test_small_rooms(self):
        for room, fits in ((0, False), (31, False), (32, True), (33, True)):
            table = filled(room, row(""))
            self.assertEqual((table.rows(), table.size()), ([row("")], 32) if fits else ([], 0), room)

    def test_a_row_that_just_fits(self):
        self.assertEqual(filled(36, row("ab", "cd")).rows(), [row("ab", "cd")])
        self.assertEqual(filled(35, row("ab", "cd")).rows(), [])
        self.assertEqual(filled(36, row("ab", "cd")).size(), 36)

    def test_the_newest_is_in_front(self):
        table = filled(4096, row("a"), row("b"), row("c", "d"))
        self.assertEqual(table.rows(), [row("c", "d"), row("b"), row("a")])
        self.assertEqual(table.size(), 33 + 33 + 34)

    def test_rows_are_dropped_from_the_back(self):
        table = filled(99, row("a"), row("b"), row("c"))
        self.assertEqual(table.rows(), [row("c"), row("b"), row("a")])
        table.add(*row("d"))
        self.assertEqual(table.rows(), [row("d"), row("c"), row("b")])
        table.add(*row("e", "f"))
        self.assertEqual((table.rows(), table.size()), ([row("e", "f"), row("d")], 67))
        table.add(*row("g", "x" * 40))
        self.assertEqual((table.rows(), table.size()), ([row("g", "x" * 40)], 73))

    def test_a_row_that_is_larger_than_the_room(self):
        table = filled(99, row("a"), row("b"), row("x" * 68))
        self.assertEqual((table.rows(), table.size(), table.room()), ([], 0, 99))
        table.add(*row("c"))
        self.assertEqual(table.rows(), [row("c")])
        table.add(*row("x" * 67))
        self.assertEqual(table.rows(), [row("x" * 67)])

    def test_resize(self):
        table = filled(4096, row("a"), row("b"), row("c"))
        for room, many in ((100, 3), (99, 3), (98, 2), (66, 2), (65, 1), (33, 1), (32, 0), (0, 0)):
            table.resize(room)
            self.assertEqual((len(table.rows()), table.room(), table.size()), (many, room, 33 * many))
            self.assertEqual(table.rows(), [row("c"), row("b"), row("a")][:many])
        table.resize(5000)
        self.assertEqual((table.rows(), table.room()), ([], 5000))
        table.add(*row("a"))
        table.resize(6000)
        self.assertEqual(table.rows(), [row("a")])

    def test_a_greater_room_brings_nothing_back(self):
        table = filled(99, row("a"), row("b"), row("c"))
        table.resize(66)
        table.resize(99)
        self.assertEqual(table.rows(), [row("c"), row("b")])
        self.assertEqual(table.find(*row("a")), (0, 0))

    def test_rows_is_a_new_list(self):
        table = filled(4096, row("a"), row("b"))
        table.rows().clear()
        table.rows().append("x")
        self.assertEqual(table.rows(), [row("b"), row("a")])
        earlier = table.rows()
        table.add(*row("c"))
        self.assertEqual(earlier, [row("b"), row("a")])


class NumbersTest(unittest.TestCase):
    def test_row(self):
        table = filled(4096, row("a"), row("b"), row("c"))
        for number, wanted in ((-1, None), (0, None), (1, row(":method", "GET")), (23, row("vary")), (24, row("c")), (25, row("b")),
                               (26, row("a")), (27, None), (1000, None), (2 ** 31 - 1, None)):
            self.assertEqual(table.row(number), wanted, number)
        self.assertIsNone(MovingTable(4096).row(24))
        table.resize(66)
        self.assertEqual((table.row(25), table.row(26)), (row("b"), None))

    def test_find(self):
        table = filled(4096, row("a", "1"), row("a", "2"), row("vary", "x"), row("a", "1"), row("date"))
        for name, value, wanted in (
            (":method", "GET", (1, 1)), (":method", "POST", (3, 1)), (":method", "HEAD", (0, 1)), (":status", "404", (9, 7)), ("vary", "", (23, 23)),
            # In both, in the moving rows alone, the name alone, in none.
            ("date", "", (16, 16)), ("vary", "x", (26, 23)), ("vary", "y", (0, 23)), ("a", "1", (25, 25)), ("a", "2", (27, 25)), ("a", "3", (0, 25)),
            ("b", "", (0, 0)), ("", "", (0, 0)), ("GET", ":method", (0, 0)),
        ):
            self.assertEqual(table.find(octets(name), octets(value)), wanted, (name, value))

    def test_find_in_an_empty_table(self):
        self.assertEqual(MovingTable(0).find(*row(":path", "/")), (4, 4))
        self.assertEqual(MovingTable(0).find(*row("a")), (0, 0))

    def test_a_name_that_is_dropped(self):
        table = filled(68, row("a", "1"), row("a", "2"))
        self.assertEqual(table.find(*row("a", "1")), (25, 24))
        table.add(*row("a", "3"))
        self.assertEqual((table.find(*row("a", "1")), table.find(*row("a", "2"))), ((0, 24), (25, 24)))
        table.add(*row("b", "1"))
        table.add(*row("b", "2"))
        self.assertEqual(table.find(*row("a", "3")), (0, 0))

    def test_tables_are_apart(self):
        one, two = MovingTable(4096), MovingTable(4096)
        one.add(*row("a"))
        self.assertEqual((two.rows(), two.find(*row("a"))), ([], (0, 0)))


class PlainTable:
    """A second table, by plain search."""

    def __init__(self, room):
        self.room = room
        self.rows = []

    def cost(self):
        return sum(32 + len(name) + len(value) for name, value in self.rows)

    def add(self, new):
        cost = 32 + len(new[0]) + len(new[1])
        while self.rows and self.cost() + cost > self.room:
            self.rows.pop()
        if cost <= self.room:
            self.rows.insert(0, new)

    def resize(self, room):
        self.room = room
        while self.cost() > room:
            self.rows.pop()

    def find(self, new):
        everything = [(octets(name), octets(value)) for name, value in FIXED] + self.rows
        names = [name for name, _ in everything]
        return (everything.index(new) + 1 if new in everything else 0, names.index(new[0]) + 1 if new[0] in names else 0)


class SecondTableTest(unittest.TestCase):
    def test_alike(self):
        chance = random.Random(3)
        for _ in range(60):
            room = chance.choice((0, 31, 32, 70, 140, 300, 4096))
            table, plain = MovingTable(room), PlainTable(room)
            for _ in range(80):
                new = row(chance.choice(("a", "b", "vary", ":path", "abc")), chance.choice(("", "/", "x", "y" * chance.randrange(60))))
                if chance.random() < 0.1:
                    room = chance.choice((0, 31, 32, 33, 64, 70, 100, 140, 300, 1000))
                    table.resize(room)
                    plain.resize(room)
                else:
                    table.add(*new)
                    plain.add(new)
                self.assertEqual((table.rows(), table.size(), table.room()), (plain.rows, plain.cost(), plain.room))
                other = row(chance.choice(("a", "b", "vary", ":path", "c")), chance.choice(("", "/", "x")))
                self.assertEqual(table.find(*other), plain.find(other))
                number = chance.randrange(40)
                wanted = ([None] + [(octets(name), octets(value)) for name, value in FIXED] + plain.rows + [None] * 40)[number]
                self.assertEqual(table.row(number), wanted)


if __name__ == "__main__":
    unittest.main()
