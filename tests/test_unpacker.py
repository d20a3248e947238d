"""Unpacking ([6.4], [6.6], [6.8]): every kind of part, the faults with their indexes, the table behind each block."""

import unittest

from support import octets

from ownanswer.codes import coded
from ownanswer.errors import HeadFault
from ownanswer.unpacker import Unpacker

A, B = octets("AA"), octets("BB")
GET = (octets(":method"), octets("GET"))


def plain(row):
    return (len(row),) + row


def short(row):
    found = coded(row)
    return (128 + len(found),) + found


def unpacked(unpacker, block):
    """The head list of a block, or (word, at)."""
    try:
        return unpacker.unpack(block)
    except HeadFault as fault:
        return (fault.word, fault.at)


def one(block, limit=4096):
    return unpacked(Unpacker(limit), block)


class PartsTest(unittest.TestCase):
    def test_nothing(self):
        self.assertEqual(one(()), [])
        self.assertEqual(one([]), [])

    def test_rows(self):
        self.assertEqual(one((129,)), [GET])
        self.assertEqual(one((151, 132)), [(octets("vary"), ()), (octets(":path"), octets("/"))])
        self.assertEqual(one([129]), [GET])

    def test_pairs(self):
        for first, number, name in ((64, 0, A), (64 + 18, 18, octets("host")), (0, 0, A), (7, 7, octets(":status")), (16, 0, A), (16 + 14, 14, octets(
                "content-length"))):
            for form in (plain, short):
                for value in (B, (), (0, 255, 7), octets("aaaaaaaaa")):
                    unpacker = Unpacker(4096)
                    block = (first,) + (form(name) if number == 0 else ()) + form(value)
                    self.assertEqual(unpacked(unpacker, block), [(name, value)], block)
                    self.assertEqual(unpacker.table().rows(), [(name, value)] if first >= 64 else [])

    def test_greater_numbers(self):
        self.assertEqual(one((15, 8) + plain(B)), [(octets("vary"), B)])
        self.assertEqual(one((31, 7) + short(B)), [(octets("range"), B)])
        self.assertEqual(one((15, 136, 128, 0) + plain(B)), [(octets("vary"), B)])

    def test_needless_digits(self):
        self.assertEqual(one((0, 127, 128, 0) + (1,) * 127 + (0,)), [((1,) * 127, ())])
        self.assertEqual(one((0, 2) + A + (255, 128, 128, 128, 128, 0) + coded(B)), ("short", 12))
        row = (65,) * 127
        self.assertEqual(one((0, 2) + A + (255, 128, 128, 128, 128, 0) + coded(row)), [(A, row)])
        self.assertEqual(one((63, 128, 0, 129)), [GET])

    def test_moving_rows(self):
        unpacker = Unpacker(4096)
        self.assertEqual(unpacked(unpacker, (64,) + plain(A) + plain(B) + (152,)), [(A, B), (A, B)])
        self.assertEqual(unpacked(unpacker, (64 + 24,) + plain(A) + (152, 153)), [(A, A), (A, A), (A, B)])
        self.assertEqual(unpacked(unpacker, (15, 9) + plain(()) + (154,)), ("row", 3))
        self.assertEqual(unpacker.table().rows(), [(A, A), (A, B)])
        self.assertEqual(unpacker.table().size(), 72)

    def test_many_rows(self):
        unpacker = Unpacker(10000)
        for number in range(150):
            unpacker.unpack((64,) + plain((number,)) + plain(()))
        for number, block in ((24, (152,)), (126, (254,)), (127, (255, 0)), (128, (255, 1)), (173, (255, 46))):
            self.assertEqual(unpacked(unpacker, block), [((173 - number,), ())], number)
        self.assertEqual(unpacked(unpacker, (255, 47)), ("row", 0))
        self.assertEqual(unpacked(unpacker, (127, 110, 1, 9)), [((0,), (9,))])

    def test_a_row_that_does_not_fit(self):
        unpacker = Unpacker(35)
        self.assertEqual(unpacked(unpacker, (64, 0, 0, 64) + plain(A) + plain(B)), [((), ()), (A, B)])
        self.assertEqual(unpacker.table().rows(), [])

    def test_the_name_of_a_row_that_is_dropped(self):
        unpacker = Unpacker(40)
        self.assertEqual(unpacked(unpacker, (64,) + plain(A) + plain(B) + (64 + 24,) + plain(A)), [(A, B), (A, A)])
        self.assertEqual(unpacker.table().rows(), [(A, A)])

    def test_lists_are_new(self):
        unpacker = Unpacker(4096)
        unpacker.unpack((129,)).append("x")
        self.assertEqual(unpacker.unpack((129,)), [GET])
        block = [64, 1, 65, 1, 66]
        unpacker.unpack(block)
        self.assertEqual(block, [64, 1, 65, 1, 66])
        self.assertEqual(unpacker.table().rows(), [((65,), (66,))])


class RoomsTest(unittest.TestCase):
    def test_new_rooms(self):
        for block, wanted, room in (
            ((32,), [], 0), ((62,), [], 30), ((63, 0), [], 31), ((63, 225, 31), [], 4096), ((41, 42), [], 10), ((42, 41), [], 9), ((41, 41), [], 9),
            ((41, 129), [GET], 9), ((41, 50, 129, 129), [GET, GET], 18),
        ):
            unpacker = Unpacker(4096)
            self.assertEqual((unpacked(unpacker, block), unpacker.table().room()), (wanted, room), block)

    def test_faults(self):
        for block, wanted in (
            ((41, 41, 41), ("room", 2)), ((63, 0, 63, 0, 32), ("room", 4)), ((129, 41), ("room", 1)), ((129, 47), ("room", 1)), ((41, 129, 41), ("room", 2)),
            ((0, 0, 0, 32), ("room", 3)), ((64, 0, 0, 63, 0), ("room", 3)), ((16, 0, 0, 41, 41), ("room", 3)), ((63, 226, 31), ("room", 0)),
            ((41, 63, 226, 31), ("room", 1)), ((63, 225, 31, 63, 226, 31), ("room", 3)),
        ):
            self.assertEqual(one(block), wanted, block)
        # A room that may not stand there is one at its first octet: its number is not read.
        for block, at in (
            ((32, 33, 63), 2), ((32, 33, 63, 255, 255, 255, 255, 255, 1), 2), ((32, 33, 34), 2), ((63, 137, 0, 63, 225, 31, 63, 187), 6),
            ((129, 63), 1), ((129, 63, 187), 1), ((129, 63, 255, 255, 255, 255, 255, 1), 1), ((0, 0, 0, 63), 3), ((41, 64, 0, 0, 63, 255), 4),
            ((16, 0, 0, 63, 128), 3), ((41, 41, 63, 226, 31), 2),
        ):
            self.assertEqual(one(block), ("room", at), block)
        self.assertEqual(one((63,)), ("short", 1))
        self.assertEqual(one((33, 63, 187)), ("short", 3))
        self.assertEqual(one((33, 63, 255, 255, 255, 255, 255)), ("number", 1))
        self.assertEqual(one((41,), limit=8), ("room", 0))
        self.assertEqual(one((40,), limit=8), [])

    def test_rooms_count_at_once(self):
        unpacker = Unpacker(4096)
        unpacker.unpack((64,) + plain(A) + plain(B))
        self.assertEqual(unpacked(unpacker, (63, 5, 152)), [(A, B)])
        self.assertEqual(unpacked(unpacker, (63, 4, 63, 225, 31, 152)), ("row", 5))
        self.assertEqual((unpacker.table().rows(), unpacker.table().room()), ([], 4096))

    def test_a_room_stays(self):
        unpacker = Unpacker(4096)
        unpacker.unpack((41,))
        unpacker.unpack((64,) + plain(A) + plain(B))
        self.assertEqual((unpacker.table().rows(), unpacker.table().room()), ([], 9))

    def test_a_limit_below_the_room(self):
        for block, wanted, room in (
            ((), [], 4096), ((129,), ("room", 0), 4096), ((64, 0, 0), ("room", 0), 4096), ((0, 0, 0), ("room", 0), 4096), ((16, 0, 0), ("room", 0), 4096),
            ((128,), ("room", 0), 4096), ((41,), [], 9), ((63, 69, 129), [GET], 100), ((63, 70), ("room", 0), 4096), ((41, 63, 70), ("room", 1), 9),
            ((41, 63, 69), [], 100), ((41, 41, 41), ("room", 2), 9), ((63,), ("short", 1), 4096), ((63, 255, 255, 255, 255, 255), ("number", 0), 4096),
        ):
            unpacker = Unpacker(4096)
            unpacker.set_limit(100)
            # The limit alone changes.
            self.assertEqual(unpacker.table().room(), 4096)
            self.assertEqual((unpacked(unpacker, block), unpacker.table().room()), (wanted, room), block)

    def test_an_empty_block_brings_no_room(self):
        unpacker = Unpacker(4096)
        unpacker.set_limit(100)
        self.assertEqual(unpacked(unpacker, ()), [])
        self.assertEqual(unpacked(unpacker, (129,)), ("room", 0))

    def test_other_limits(self):
        unpacker = Unpacker(100)
        for limit, block, wanted in ((100, (129,), [GET]), (200, (129,), [GET]), (200, (63, 169, 1, 129), [GET]), (200, (129,), [GET]),
                                     (200, (63, 170, 1), ("room", 0)), (199, (63, 168, 1), [])):
            unpacker.set_limit(limit)
            self.assertEqual(unpacked(unpacker, block), wanted, (limit, block))
        unpacker = Unpacker(100)
        unpacker.set_limit(5)
        unpacker.set_limit(100)
        self.assertEqual(unpacked(unpacker, (129,)), [GET])


class FaultsTest(unittest.TestCase):
    def test_row(self):
        for block, at in (((128,), 0), ((152,), 0), ((255, 0), 0), ((129, 128), 1), ((129, 152, 129), 1), ((64 + 24, 0), 0), ((15, 9, 0), 0), ((31, 9, 0), 0),
                          ((64, 0, 0, 64 + 25, 0), 3), ((0, 0, 0, 152), 3), ((127, 128, 128, 128, 128, 7), 0), ((128, 128), 0)):
            self.assertEqual(one(block), ("row", at), block)
        # It is found ahead of what stands behind the number.
        self.assertEqual(one((64 + 24,)), ("row", 0))
        self.assertEqual(one((129, 15, 9)), ("row", 1))

    def test_short(self):
        whole = (64 + 63, 200, 1)
        for block in ((64,), (0,), (16,), (255,), (255, 128), (63,), whole[:1], whole[:2], (64, 2), (64, 2, 65), (64, 2, 65, 65), (64, 0), (0, 0), (0, 0, 1),
                      (0, 0, 129), (64, 127), (64, 127, 128), (65,), (65, 3, 1, 1), (0, 127, 200, 9), (41, 63), (41, 41, 64), (129, 64, 1), (0, 0, 255, 128, 128)):
            self.assertEqual(one(block), ("short", len(block)), block)
        self.assertEqual(one((0, 0, 255) + (255, 255, 255, 7) + (1,) * 9), ("short", 16))

    def test_every_cut_block(self):
        block = (41, 63, 0, 129, 64) + plain(A) + short(octets("aaaaaaaa")) + (127 - 63 + 15,) + plain(B) + (31, 1) + short(B) + (0, 0, 127, 0) + (7,) * 127
        ends = {0: 0, 1: 0, 3: 0, 4: 1}
        found = one(block)
        self.assertEqual(len(found), 5)
        for size in range(len(block)):
            told = one(block[:size])
            if isinstance(told, list):
                self.assertEqual(told, found[:len(told)])
                ends[size] = len(told)
            else:
                self.assertEqual(told, ("short", size))
        self.assertEqual(sorted(ends.values()), [0, 0, 0, 1, 2, 3, 4])

    def test_number(self):
        big = (255, 255, 255, 255, 255)
        for block, at in (((255,) + big, 0), ((127,) + big, 0), ((15,) + big, 0), ((31,) + big, 0), ((63,) + big, 0), ((129, 255) + big, 1),
                          ((64, 127) + big, 1), ((64, 255) + big, 1), ((64, 2) + A + (255,) + big, 4), ((65, 127) + big, 1), ((0, 0, 127) + big, 2),
                          ((41, 63) + big, 1), ((255, 128, 128, 128, 128, 8), 0), ((129, 129, 255, 128, 128, 128, 128, 128, 0), 2)):
            self.assertEqual(one(block), ("number", at), block)

    def test_code(self):
        for block, at in (((64, 130, 255, 255), 1), ((64, 129, 255), 1), ((64, 129, 6), 1), ((64, 2) + A + (130, 255, 255), 4), ((65, 129, 0), 1),
                          ((0, 0, 255, 0) + (255,) * 127, 2), ((129, 16, 129, 254, 129, 1), 4)):
            self.assertEqual(one(block), ("code", at), block)
        # The length comes first, then what it counts.
        self.assertEqual(one((64, 131, 255, 255)), ("short", 4))

    def test_what_a_fault_leaves(self):
        for fault in ((128,), (64, 5), (64, 129, 255), (41,), (255, 255, 255, 255, 255, 255), (64, 1, 67, 129, 255)):
            unpacker = Unpacker(4096)
            block = (63, 225, 20, 64) + plain(A) + plain(B) + (0, 0, 0, 64 + 18) + plain(A) + fault
            self.assertIsInstance(unpacked(unpacker, block), tuple)
            self.assertEqual(unpacker.table().rows(), [(octets("host"), A), (A, B)], fault)
            self.assertEqual(unpacker.table().room(), 31 + 97 + 20 * 128)

    def test_the_error(self):
        with self.assertRaises(HeadFault) as caught:
            Unpacker(4096).unpack((128,))
        self.assertIsInstance(caught.exception, ValueError)
        self.assertEqual((caught.exception.word, caught.exception.at), ("row", 0))


if __name__ == "__main__":
    unittest.main()
