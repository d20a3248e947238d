import itertools
import random
import re
import unittest

from ownanswer.ranges import joined_ranges, read_content_range, read_ranges, write_content_range

FULL = 10 ** 15 - 1


class ReadTest(unittest.TestCase):
    def all_are(self, size, rows):
        for value, wanted in rows:
            self.assertEqual(read_ranges(value, size), wanted, (value, size))

    def test_example(self):
        self.assertEqual(read_ranges("bytes=0-4, -3, 90-", 10), [(0, 4), (7, 9)])

    def test_the_unit(self):
        for value in ("bytes=0-4", "BYTES=0-4", "bYtEs=0-4", "bytes= 0-4", "bytes=\t0-4"):
            self.assertEqual(read_ranges(value, 10), [(0, 4)], value)
        for value in ("", "0-4", "byte=0-4", "bytess=0-4", "bytes 0-4", "bytes =0-4", "lines=0-4", "bytes", "bytes0-4", "=0-4",
                      "bytes==0-4", "bytes:0-4", "x bytes=0-4", "bytes=bytes=0-4"):
            self.assertIsNone(read_ranges(value, 10), value)

    def test_first_and_last(self):
        self.all_are(10, (
            ("bytes=0-0", [(0, 0)]), ("bytes=0-9", [(0, 9)]), ("bytes=0-10", [(0, 9)]), ("bytes=0-999", [(0, 9)]),
            ("bytes=9-9", [(9, 9)]), ("bytes=9-10", [(9, 9)]), ("bytes=10-10", []), ("bytes=10-11", []), ("bytes=11-12", []),
            ("bytes=4-3", None), ("bytes=99-98", None), ("bytes=3-4", [(3, 4)]),
        ))

    def test_without_a_last(self):
        self.all_are(10, (("bytes=0-", [(0, 9)]), ("bytes=9-", [(9, 9)]), ("bytes=10-", []), ("bytes=11-", []), ("bytes=007-", [(7, 9)])))

    def test_the_last_octets(self):
        self.all_are(10, (
            ("bytes=-1", [(9, 9)]), ("bytes=-9", [(1, 9)]), ("bytes=-10", [(0, 9)]), ("bytes=-11", [(0, 9)]), ("bytes=-0", []),
            ("bytes=-000", []), ("bytes=-003", [(7, 9)]), ("bytes=-0,1-2,-0", [(1, 2)]),
        ))

    def test_an_empty_body(self):
        self.all_are(0, (("bytes=0-0", []), ("bytes=0-", []), ("bytes=-1", []), ("bytes=-0", []), ("bytes=1-0", None),
                         ("bytes=5-9,-3", []), ("bytes=x", None)))
        self.all_are(1, (("bytes=0-0", [(0, 0)]), ("bytes=0-", [(0, 0)]), ("bytes=-1", [(0, 0)]), ("bytes=1-", [])))

    def test_numbers(self):
        self.all_are(10 ** 16, (
            (f"bytes={FULL}-{FULL}", [(FULL, FULL)]), (f"bytes=0-{FULL}", [(0, FULL)]), (f"bytes=0-{FULL + 1}", None),
            (f"bytes={FULL + 1}-", None), (f"bytes=-{FULL}", [(10 ** 16 - FULL, 10 ** 16 - 1)]), (f"bytes=-{FULL + 1}", None),
            ("bytes=" + "0" * 14 + "5-6", [(5, 6)]), ("bytes=" + "0" * 15 + "5-6", None), ("bytes=5-" + "0" * 14 + "6", [(5, 6)]),
            ("bytes=5-" + "0" * 15 + "6", None), ("bytes=-" + "0" * 16, None), ("bytes=-" + "0" * 15, []),
        ))
        self.all_are(10, ((f"bytes={FULL}-", []), (f"bytes={FULL + 1}-", None), (f"bytes=0-1,{FULL + 1}-", None)))

    def test_how_many(self):
        for many, wanted in ((1, [(0, 1)]), (19, [(0, 1)] * 19), (20, [(0, 1)] * 20), (21, None), (40, None)):
            self.assertEqual(read_ranges("bytes=" + ",".join(["0-1"] * many), 10), wanted, many)
        # Those that lie behind the body are counted, too; empty places are not.
        self.assertEqual(read_ranges("bytes=" + ",".join(["90-"] * 20), 10), [])
        self.assertIsNone(read_ranges("bytes=" + ",".join(["90-"] * 20 + ["0-1"]), 10))
        self.assertEqual(read_ranges("bytes=" + ",".join(["0-1"] * 20 + [""] * 9), 10), [(0, 1)] * 20)

    def test_the_list(self):
        self.all_are(10, (
            ("bytes=0-1,3-4", [(0, 1), (3, 4)]), ("bytes=3-4 ,\t0-1", [(3, 4), (0, 1)]), ("bytes=,,0-1,", [(0, 1)]),
            ("bytes= , 0-1 , ,3-4", [(0, 1), (3, 4)]), ("bytes=0-1,0-1", [(0, 1), (0, 1)]), ("bytes=0-5,3-9", [(0, 5), (3, 9)]),
            ("bytes=", None), ("bytes=,", None), ("bytes= , ,", None),
        ))

    def test_other_forms(self):
        for part in ("-", "--", "5", "a-b", "1-b", "a-1", "1 -2", "1- 2", "- 2", "+1-2", "1-+2", "-+2", "--2", "1--2", "1-2-3", "1-2-",
                     "-1-", "1.0-2", "*", "0x1-2", "1-2;q=1", '"1-2"', "1-2 3-4", "1-2x"):
            self.assertIsNone(read_ranges("bytes=" + part, 10), part)
            self.assertIsNone(read_ranges("bytes=0-1," + part, 10), part)
            self.assertIsNone(read_ranges(f"bytes={part},0-1", 10), part)
        self.assertIsNone(read_ranges('bytes=0-1,"', 10))

    def test_every_short_value(self):
        form = re.compile(r"(\d*)-(\d*)")
        for length in range(6):
            for signs in itertools.product("03-, ", repeat=length):
                value = "".join(signs)
                for size in (0, 3, 4):
                    self.assertEqual(read_ranges("bytes=" + value, size), self.second(form, value, size), (value, size))

    def second(self, form, value, size):
        rows = [part.strip() for part in value.split(",") if part.strip()]
        found = []
        for row in rows:
            match = form.fullmatch(row)
            if match is None or row == "-":
                return None
            left, right = match.groups()
            wanted = range(size)
            if left and right:
                if int(right) < int(left):
                    return None
                wanted = [at for at in wanted if int(left) <= at <= int(right)]
            elif left:
                wanted = [at for at in wanted if int(left) <= at]
            else:
                wanted = [at for at in wanted if at >= size - int(right)]
            if wanted:
                found.append((wanted[0], wanted[-1]))
        return found if rows else None


class JoinedTest(unittest.TestCase):
    def test_rows(self):
        for ranges, wanted in (
            ([], []), ([(3, 5)], [(3, 5)]), ([(0, 1), (3, 4)], [(0, 1), (3, 4)]), ([(3, 4), (0, 1)], [(0, 1), (3, 4)]),
            ([(0, 1), (2, 4)], [(0, 4)]), ([(2, 4), (0, 1)], [(0, 4)]), ([(0, 3), (2, 4)], [(0, 4)]), ([(0, 9), (2, 4)], [(0, 9)]),
            ([(2, 4), (0, 9)], [(0, 9)]), ([(1, 1), (1, 1)], [(1, 1)]), ([(0, 0), (2, 2), (1, 1)], [(0, 2)]),
            ([(5, 9), (0, 9)], [(0, 9)]), ([(0, 9), (3, 4), (6, 12)], [(0, 12)]),
        ):
            self.assertEqual(joined_ranges(ranges), wanted, ranges)
            self.assertEqual(joined_ranges(tuple(ranges)), wanted, ranges)

    def test_the_given_list_stays(self):
        given = [(5, 6), (0, 3), (2, 4)]
        found = joined_ranges(given)
        self.assertEqual(given, [(5, 6), (0, 3), (2, 4)])
        self.assertIsNot(found, given)

    def test_as_sets(self):
        chance = random.Random(4)
        for _ in range(3000):
            ranges = []
            for _ in range(chance.randrange(6)):
                first = chance.randrange(14)
                ranges.append((first, first + chance.randrange(5)))
            found = joined_ranges(ranges)
            wanted = sorted({at for first, last in ranges for at in range(first, last + 1)})
            self.assertEqual([at for first, last in found for at in range(first, last + 1)], wanted)
            self.assertTrue(all(one[1] + 1 < two[0] for one, two in zip(found, found[1:])), found)


class ContentRangeTest(unittest.TestCase):
    def test_write(self):
        self.assertEqual(write_content_range(0, 4, 10), "bytes 0-4/10")
        self.assertEqual(write_content_range(7, 7, 8), "bytes 7-7/8")
        self.assertEqual(write_content_range(None, None, 10), "bytes */10")
        self.assertEqual(write_content_range(None, None, 0), "bytes */0")

    def test_read(self):
        for value, wanted in (
            ("bytes 0-4/10", (0, 4, 10)), ("bytes 0-0/1", (0, 0, 1)), ("bytes 9-9/10", (9, 9, 10)), ("bytes */10", (None, None, 10)),
            ("bytes */0", (None, None, 0)), (f"bytes {FULL - 1}-{FULL - 1}/{FULL}", (FULL - 1, FULL - 1, FULL)),
            ("bytes 00-04/010", (0, 4, 10)),
        ):
            self.assertEqual(read_content_range(value), wanted, value)

    def test_other_forms(self):
        for value in (
            "", "bytes", "bytes ", "bytes 0-4", "bytes 0-4/", "bytes 0-4/*", "bytes */*", "bytes */", "bytes *", "bytes 0-/10",
            "bytes -4/10", "bytes -/10", "bytes 4/10", "bytes 0-4-5/10", "bytes 0--4/10", "bytes 0-4/10/10", "bytes 0-4 /10",
            "bytes 0-4/ 10", "bytes  0-4/10", "bytes 0 -4/10", "bytes=0-4/10", "bytes\t0-4/10", "lines 0-4/10", "0-4/10", " bytes 0-4/10",
            "bytes 0-4/10 ", "bytes +0-4/10", "bytes 0-4/-10", "bytes 4-3/10", "bytes 0-10/10", "bytes 0-11/10", "bytes 10-10/10",
            "bytes 0-0/0", f"bytes 0-4/{FULL + 1}", f"bytes {FULL + 1}-{FULL + 1}/{FULL}", "bytes 0-4/" + "0" * 16, "bytes **/10",
            "bytes */-1", "bytes a-4/10", "bytes 0-b/10", "bytes 0-4/c",
        ):
            self.assertIsNone(read_content_range(value), value)

    def test_one_sign_changed(self):
        text = "bytes 23-45/67"
        form = re.compile(r"bytes (\d+)-(\d+)/(\d+)")
        for at in range(len(text)):
            for sign in "09a -/*=":
                changed = text[:at] + sign + text[at + 1:]
                match = form.fullmatch(changed)
                numbers = tuple(int(part) for part in match.groups()) if match else None
                wanted = numbers if numbers and numbers[0] <= numbers[1] < numbers[2] else None
                self.assertEqual(read_content_range(changed), wanted, changed)

    def test_what_is_written_is_read(self):
        for size in range(6):
            self.assertEqual(read_content_range(write_content_range(None, None, size)), (None, None, size))
            for first in range(size):
                for last in range(first, size):
                    self.assertEqual(read_content_range(write_content_range(first, last, size)), (first, last, size))


if __name__ == "__main__":
    unittest.main()
