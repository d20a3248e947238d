"""Packing ([6.4], [6.6], [6.7], [6.8]): the octets themselves, and the table behind each block."""

import unittest

from support import octets

from ownanswer.codes import coded
from ownanswer.packer import Packer

GET = (octets(":method"), octets("GET"))
HEAD = (octets(":method"), octets("HEAD"))
# Coded, the first is shorter, the second longer, the third as long.
SHORT, LONG, EQUAL = octets("aaaa"), octets("@@@@"), octets("AAAA")


def plain(row):
    return (len(row),) + row


def short(row):
    found = coded(row)
    return (128 + len(found),) + found


def packed(pairs, *choices, room=4096):
    packer = Packer(room)
    return packer.pack(pairs, choices=choices), packer.table().rows()


class StringsTest(unittest.TestCase):
    def test_lengths(self):
        self.assertLess(len(coded(SHORT)), len(SHORT))
        self.assertGreater(len(coded(LONG)), len(LONG))
        self.assertEqual(len(coded(EQUAL)), len(EQUAL))

    def test_coding(self):
        for row, if_shorter in ((SHORT, short), (LONG, plain), (EQUAL, plain), ((), plain)):
            for choice, form in ((0, if_shorter), (8, short), (16, plain), (24, if_shorter), (32, short), (40, plain)):
                block, _ = packed([(row, ())], choice)
                self.assertEqual(block, (64,) + form(row) + (short(()) if form == short and choice % 24 == 8 else plain(())), (row, choice))
                block, _ = packed([(octets(":path"), row)], choice)
                self.assertEqual(block, (64 + 4,) + form(row), (row, choice))

    def test_an_empty_string(self):
        self.assertEqual(packed([((), ())], 8)[0], (64, 128, 128))
        self.assertEqual(packed([((), ())], 0)[0], (64, 0, 0))

    def test_long_strings(self):
        row = (0,) * 127
        self.assertEqual(packed([((), row)], 16)[0], (64, 0, 127, 0) + row)
        row = (200,) * 300
        self.assertEqual(packed([((), row)], 16)[0], (64, 0, 127, 173, 1) + row)
        found = coded(row)
        self.assertEqual(len(found), 600)
        self.assertEqual(packed([((), row)], 8)[0], (64, 128, 255, 217, 3) + found)


class ChoicesTest(unittest.TestCase):
    def test_a_pair_that_has_a_row(self):
        for choice in range(48):
            block, rows = packed([GET], choice)
            value = {0: plain, 1: short, 2: plain}[choice // 8 % 3]
            name = () if choice // 4 % 2 == 0 else {0: short, 1: short, 2: plain}[choice // 8 % 3](GET[0])
            number = 1 if choice // 4 % 2 == 0 else 0
            if choice % 4 < 2:
                wanted = ((129,), [])
            elif choice % 4 == 2:
                wanted = ((16 + number,) + name + value(GET[1]), [])
            else:
                wanted = ((64 + number,) + name + value(GET[1]), [GET])
            self.assertEqual((block, rows), wanted, choice)

    def test_a_pair_whose_name_has_a_row(self):
        for choice in range(48):
            self.is_written((octets("vary"), SHORT), 23, choice)
            self.is_written((octets("vary"), LONG), 23, choice)

    def test_a_pair_that_has_none(self):
        for choice in range(48):
            self.is_written((SHORT, LONG), 0, choice)
            self.is_written((EQUAL, SHORT), 0, choice)

    def is_written(self, pair, row, choice):
        forms = {0: lambda text: short(text) if len(coded(text)) < len(text) else plain(text), 1: short, 2: plain}
        form = forms[choice // 8 % 3]
        number = row if choice // 4 % 2 == 0 else 0
        if choice % 4 in (0, 3):
            first = (64 + number,)
        else:
            bits = 0 if choice % 4 == 1 else 16
            first = (bits + number,) if number < 15 else (bits + 15, number - 15)
        name = form(pair[0]) if number == 0 else ()
        wanted = (first + name + form(pair[1]), [pair] if choice % 4 in (0, 3) else [])
        self.assertEqual(packed([pair], choice), wanted, (pair, choice))

    def test_greater_choices(self):
        for choice in (48, 49, 50, 51, 96 + 7, 24 * 40 + 13, 2 ** 40 + 3):
            for pair in (GET, HEAD, (SHORT, LONG)):
                self.assertEqual(packed([pair], choice), packed([pair], choice % 24), choice)

    def test_no_choices(self):
        pairs = [GET, HEAD, (SHORT, LONG)]
        self.assertEqual(Packer(4096).pack(pairs), packed(pairs, 0)[0])
        self.assertEqual(Packer(4096).pack(pairs, choices=()), packed(pairs, 0)[0])

    def test_more_pairs_than_choices(self):
        rows = [(octets("vary"), octets(text)) for text in ("AA", "BB", "CC", "DD", "EE")]
        block, table = packed(rows, 16, 17)
        self.assertEqual(block, (87,) + plain(octets("AA")) + (15, 8) + plain(octets("BB")) + (87,) + plain(octets("CC"))
                         + (15, 8) + plain(octets("DD")) + (87,) + plain(octets("EE")))
        self.assertEqual(table, [rows[4], rows[2], rows[0]])
        # A choice behind the last pair is not used.
        self.assertEqual(packed(rows[:1], 16, 17)[0], (87,) + plain(octets("AA")))

    def test_rows_of_the_moving_table(self):
        pair = (octets("AA"), octets("BB"))
        packer = Packer(4096)
        self.assertEqual(packer.pack([pair, pair, (pair[0], ())], choices=(16,)), (64,) + plain(pair[0]) + plain(pair[1]) + (152, 64 + 24, 0))
        self.assertEqual(packer.table().rows(), [(pair[0], ()), pair])
        self.assertEqual(packer.pack([pair, (pair[0], ())]), (153, 152))
        # 3 adds it once more; it is found as the newest one then.
        self.assertEqual(packer.pack([pair, pair], choices=(19, 16)), (64 + 24,) + plain(pair[1]) + (152,))
        self.assertEqual(packer.table().rows(), [pair, (pair[0], ()), pair])

    def test_great_numbers_of_rows(self):
        packer = Packer(100000)
        rows = [(octets(f"AA{at}"), octets("B")) for at in range(200)]
        packer.pack(rows)
        self.assertEqual(packer.pack([rows[199], rows[97], rows[96], rows[95]]), (152, 254, 255, 0, 255, 1))
        self.assertEqual(packer.pack([(rows[0][0], octets("C"))], choices=(16,)), (127, 160, 1, 1, 67))

    def test_a_row_that_is_larger_than_the_room(self):
        packer = Packer(40)
        packer.pack([(octets("AA"), ())])
        self.assertEqual(len(packer.table().rows()), 1)
        self.assertEqual(packer.pack([(octets("AA"), (1,) * 9)], choices=(16,)), (64 + 24, 9) + (1,) * 9)
        self.assertEqual(packer.table().rows(), [])

    def test_what_is_handed_in_stays(self):
        pairs = [GET, (SHORT, LONG)]
        choices = [3, 0]
        Packer(4096).pack(pairs, choices=choices)
        self.assertEqual((pairs, choices), ([GET, (SHORT, LONG)], [3, 0]))

    def test_kinds(self):
        self.assertIsInstance(Packer(4096).pack([GET]), tuple)
        self.assertEqual(Packer(4096).pack([]), ())
        self.assertEqual(Packer(4096).pack(()), ())
        with self.assertRaises(TypeError):
            Packer(4096).pack([GET], (1,))


class RoomsTest(unittest.TestCase):
    def blocks(self, *deeds, room=4096):
        """The blocks of a new packer: a number sets the room, ("limit", n) the limit, None packs nothing."""
        packer = Packer(room)
        found = []
        for deed in deeds:
            if deed is None:
                found.append(packer.pack([]))
            elif isinstance(deed, tuple):
                packer.set_limit(deed[1])
            else:
                packer.set_room(deed)
        return found, packer.table().room()

    def test_rooms(self):
        for deeds, wanted, room in (
            ((None,), [()], 4096), ((30, None), [(62,)], 30), ((31, None), [(63, 0)], 31), ((0, None), [(32,)], 0),
            ((100, None, None), [(63, 69), ()], 100), ((100, 200, None), [(63, 69, 63, 169, 1)], 200), ((200, 100, None), [(63, 69)], 100),
            ((5, 9, 7, None), [(37, 39)], 7), ((5, 5, None), [(37,)], 5), ((9, 5, 7, 6, 8, None), [(37, 40)], 8),
            # The value that it had is told, too.
            ((4096, None), [(63, 225, 31)], 4096), ((5, None, 5, None), [(37,), (37,)], 5), ((5, None, 4, 5, None), [(37,), (36, 37)], 5),
            # What was set before the last block counts no more.
            ((5, None, 9, None), [(37,), (41,)], 9), ((5, None, 9, 8, None), [(37,), (40,)], 8), ((None, 7, None), [(), (39,)], 7),
            # Not above the limit.
            ((5000, None), [(63, 225, 31)], 4096), ((10 ** 9, None), [(63, 225, 31)], 4096), ((5, 10 ** 9, None), [(37, 63, 225, 31)], 4096),
        ):
            self.assertEqual(self.blocks(*deeds), (wanted, room), deeds)

    def test_limits(self):
        for deeds, wanted, room in (
            ((("limit", 4096), None), [()], 4096), ((("limit", 9000), None), [()], 4096), ((("limit", 9), None), [(41,)], 9),
            ((("limit", 9), ("limit", 20), None), [(41,)], 9), ((("limit", 9), ("limit", 20), 30, None), [(41, 52)], 20),
            ((("limit", 9000), 5, None), [(37,)], 5), ((("limit", 9000), 9000, None), [(63, 137, 70)], 9000), ((5, None, ("limit", 5), None), [(37,), ()], 5),
            ((5, None, ("limit", 4), None), [(37,), (36,)], 4), ((20, ("limit", 9), None), [(41,)], 9), ((5, ("limit", 9), None), [(37,)], 5),
            ((("limit", 0), None, ("limit", 30), None, 40, None), [(32,), (), (62,)], 30), ((20, ("limit", 9), ("limit", 20), 12, None), [(41, 44)], 12),
        ):
            self.assertEqual(self.blocks(*deeds), (wanted, room), deeds)
        self.assertEqual(self.blocks(9, None, room=8), ([(40,)], 8))
        self.assertEqual(self.blocks(None, room=0), ([()], 0))

    def test_the_room_counts_at_once(self):
        packer = Packer(4096)
        pair = (octets("AA"), octets("BB"))
        packer.pack([pair])
        packer.set_room(35)
        self.assertEqual(packer.table().rows(), [])
        packer.set_room(4096)
        self.assertEqual(packer.pack([pair], choices=(16,)), (63, 4, 63, 225, 31, 64) + plain(pair[0]) + plain(pair[1]))
        packer.set_limit(36)
        self.assertEqual((packer.table().rows(), packer.table().room()), ([pair], 36))
        packer.set_limit(35)
        self.assertEqual((packer.table().rows(), packer.table().room()), ([], 35))

    def test_rooms_stand_in_front(self):
        packer = Packer(4096)
        packer.set_room(9)
        self.assertEqual(packer.pack([GET]), (41, 129))
        self.assertEqual(packer.pack([GET]), (129,))


if __name__ == "__main__":
    unittest.main()
