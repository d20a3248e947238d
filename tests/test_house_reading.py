"""The house: what GET and HEAD give, whole and in ranges ([5.6], [5.8])."""

import random
import re
import unittest

from support import octets, string

from ownanswer.dates import write_date
from ownanswer.house import House
from ownanswer.partbody import free_mark

NOW = 1488603967
HOST = ("host", "h")
DATE = ("date", "Sat, 04 Mar 2017 05:06:07 GMT")
TIME = write_date(1000)
BODY = tuple(range(97, 107))
STATE = (DATE, ("etag", '"x"'), ("last-modified", TIME), ("cache-control", "max-age=60"))
RANGED = ("accept-ranges", "bytes")
KIND = ("content-type", "text/plain")
VARY = ("vary", "accept, accept-language")


def house_of(body=BODY, keep=60, language="", others=()):
    return House(((octets("/a"), keep, (("text/plain", language, body, "x", 1000),) + others),))


def got(house, *fields, method="GET", now=NOW):
    return house.answer((method, octets("/a"), (HOST,) + fields, (), ()), now)


def ranged(value, *fields, method="GET", body=BODY):
    return got(house_of(body), ("range", value), *fields, method=method)


class WholeTest(unittest.TestCase):
    def test_the_example(self):
        house = House(((octets("/a"), 60, (("text/plain", "", (104, 105), "x", 0),)),))
        self.assertEqual(got(house, ("range", "bytes=1-"), now=100), (206, (
            ("date", write_date(100)), ("etag", '"x"'), ("last-modified", write_date(0)), ("cache-control", "max-age=60"),
            ("accept-ranges", "bytes"), ("content-type", "text/plain"), ("content-range", "bytes 1-1/2")), (105,), ()))

    def test_get(self):
        self.assertEqual(got(house_of()), (200, STATE + (RANGED, KIND), BODY, ()))
        self.assertEqual(got(house_of(body=())), (200, STATE + (RANGED, KIND), (), ()))

    def test_the_fields(self):
        for keep, rule in ((0, "max-age=0"), (-1, "no-store"), (-2, "no-cache")):
            self.assertEqual(got(house_of(keep=keep))[1], STATE[:3] + (("cache-control", rule), RANGED, KIND))
        self.assertEqual(got(house_of(language="de"))[1], STATE + (RANGED, KIND, ("content-language", "de")))
        other = (("text/plain", "en", (), "y", 0),)
        self.assertEqual(got(house_of(others=other))[1], STATE + (VARY, RANGED, KIND))
        self.assertEqual(got(house_of(language="de", others=other))[1], STATE + (VARY, RANGED, KIND, ("content-language", "de")))

    def test_without_a_page(self):
        for method in ("GET", "HEAD"):
            self.assertEqual(got(House(()), method=method), (404, (DATE,), (), ()))
            self.assertEqual(got(House(()), ("range", "bytes=0-0"), method=method), (404, (DATE,), (), ()))

    def test_head_against_get(self):
        for fields in ((), (("if-match", '"x"'),), (("if-match", '"y"'),), (("if-none-match", "*"),), (("accept", "x/y"),), (("accept", "text/*"),)):
            for house in (house_of(), house_of(others=(("x/y", "", (1,), "z", 9),)), House(())):
                status, told, _, trailers = got(house, *fields)
                self.assertEqual(got(house, *fields, method="HEAD"), (status, told, (), trailers), fields)

    def test_ranges_are_nothing_for_head(self):
        for value in ("bytes=0-0", "bytes=99-", "bytes=0-0,5-5", "x"):
            self.assertEqual(ranged(value, method="HEAD"), (200, STATE + (RANGED, KIND), (), ()))

    def test_nothing_is_changed(self):
        house = house_of()
        pages = house.pages()
        got(house, ("range", "bytes=0-0,5-5"))
        self.assertEqual((house.pages(), house.changes()), (pages, 0))


class OneRangeTest(unittest.TestCase):
    def test_ranges(self):
        for value, first, last in (("bytes=0-0", 0, 0), ("bytes=0-9", 0, 9), ("bytes=3-", 3, 9), ("bytes=-2", 8, 9), ("bytes=9-99", 9, 9),
                                   ("bytes=0-3,2-5", 0, 5), ("bytes=4-5,2-3", 2, 5), ("bytes=99-,1-2", 1, 2), ("bytes=-0,1-2,2-2", 1, 2)):
            self.assertEqual(ranged(value), (
                206, STATE + (RANGED, KIND, ("content-range", f"bytes {first}-{last}/10")), BODY[first:last + 1], ()), value)

    def test_the_fields(self):
        house = house_of(language="de", others=(("text/plain", "en", (), "y", 0),))
        self.assertEqual(got(house, ("range", "bytes=1-1"))[:2], (
            206, STATE + (VARY, RANGED, KIND, ("content-language", "de"), ("content-range", "bytes 1-1/10"))))

    def test_no_range(self):
        for value in ("bytes=10-", "bytes=10-11", "bytes=-0", "bytes=99-100,-0"):
            self.assertEqual(ranged(value), (416, (DATE, ("content-range", "bytes */10")), (), ()), value)
        for value in ("bytes=0-0", "bytes=0-", "bytes=-5"):
            self.assertEqual(ranged(value, body=()), (416, (DATE, ("content-range", "bytes */0")), (), ()), value)

    def test_what_cannot_be_read(self):
        for value in ("", "x", "bytes=", "bytes=3-2", "lines=0-1", "bytes=0-1,x", "bytes=" + ",".join(["0-1"] * 21), "bytes=" + "0" * 16 + "-"):
            self.assertEqual(ranged(value), (200, STATE + (RANGED, KIND), BODY, ()), value)

    def test_if_range(self):
        for value, status in (('"x"', 206), (TIME, 206), ('"y"', 200), ('W/"x"', 200), (write_date(999), 200), ("?", 200)):
            self.assertEqual(ranged("bytes=0-0", ("if-range", value))[0], status, value)
            self.assertEqual(ranged("bytes=10-", ("if-range", value))[0], 416 if status == 206 else 200, value)

    def test_conditions_come_first(self):
        self.assertEqual(ranged("bytes=0-0", ("if-none-match", '"x"'))[0], 304)
        self.assertEqual(ranged("bytes=99-", ("if-match", '"y"'))[0], 412)

    def test_the_field_twice(self):
        house = house_of()
        self.assertEqual(got(house, ("range", "bytes=0-1"), ("range", "2-3"))[2], BODY[:4])
        self.assertEqual(got(house, ("range", "bytes=0-1"), ("range", "bytes=2-3"))[:1], (200,))


class SeveralRangesTest(unittest.TestCase):
    def test_the_body(self):
        status, fields, body, trailers = ranged("bytes=-2,0-1,4-4")
        self.assertEqual((status, trailers), (206, ()))
        self.assertEqual(fields, STATE + (RANGED, ("content-type", "multipart/byteranges; boundary=part0")))
        self.assertEqual(string(body), "\r\n".join((
            "--part0", "content-type: text/plain", "content-range: bytes 0-1/10", "", "ab",
            "--part0", "content-type: text/plain", "content-range: bytes 4-4/10", "", "e",
            "--part0", "content-type: text/plain", "content-range: bytes 8-9/10", "", "ij", "--part0--", "")))

    def test_the_fields(self):
        house = house_of(language="de", others=(("text/plain", "en", (), "y", 0),))
        self.assertEqual(got(house, ("range", "bytes=0-0,5-5"))[1], STATE + (
            VARY, RANGED, ("content-type", "multipart/byteranges; boundary=part0"), ("content-language", "de")))

    def test_marks_in_the_body(self):
        for text, wanted in (
            ("--part0", 1), ("--part1", 0), ("--part0--part1", 2), ("--part0 --part2", 1), ("--part10", 0), ("--part0--part10", 2),
            ("--part01", 1), ("x--part0y", 1), ("-part0", 0), ("--part", 0), ("--Part0", 0), ("---part0", 1), ("--part0--part12--part2", 3),
            ("".join(f"--part{number}" for number in range(12)), 12), ("".join(f"--part{number}" for number in range(1, 12)), 0),
            ("".join(f"--part{number}" for number in (0, 20, 30, 4, 50, 60, 70, 80, 90)), 1), ("--part00", 1), ("--part0" * 9, 1),
        ):
            body = octets(text) + (0, 255)
            status, fields, told, _ = ranged("bytes=0-0,2-2", body=body)
            mark = f"part{wanted}"
            self.assertEqual((status, dict(fields)["content-type"]), (206, f"multipart/byteranges; boundary={mark}"), text)
            first, third = text[0], text[2]
            parts = [f"--{mark}\r\ncontent-type: text/plain\r\ncontent-range: bytes {at}-{at}/{len(body)}\r\n\r\n{sign}\r\n"
                     for at, sign in ((0, first), (2, third))]
            self.assertEqual(string(told), "".join(parts) + f"--{mark}--\r\n", text)

    def test_the_mark_by_trying(self):
        chance = random.Random(11)
        for _ in range(400):
            text = "".join(chance.choice(("--part", "0", "1", "2", "3", "9", "-", "x")) for _ in range(chance.randrange(40)))
            number = 0
            while f"--part{number}" in text:
                number += 1
            self.assertEqual(free_mark(octets(text)), f"part{number}", text)

    def test_many_marks(self):
        text = "".join(f"--part{number}" for number in range(2000))
        self.assertEqual(free_mark(octets(text)), "part2000")

    def test_the_body_can_be_cut_again(self):
        chance = random.Random(12)
        form = re.compile(r"content-type: text/plain\r\ncontent-range: bytes (\d+)-(\d+)/(\d+)\r\n\r\n(.*)\r\n", re.DOTALL)
        for _ in range(200):
            body = tuple(chance.choice(octets("-part01\r\n")) for _ in range(60))
            value = "bytes=" + ",".join(f"{first}-{first + chance.randrange(6)}" for first in chance.sample(range(60), 4))
            status, fields, told, _ = ranged(value, body=body)
            if "boundary" not in dict(fields)["content-type"]:
                continue
            mark = dict(fields)["content-type"].partition("boundary=")[2]
            ahead, *parts, behind = string(told).split(f"--{mark}")
            self.assertEqual((ahead, behind), ("", "--\r\n"))
            for part in parts:
                first, last, size, inside = form.fullmatch(part[2:]).groups()
                self.assertEqual((size, octets(inside)), ("60", body[int(first):int(last) + 1]))


if __name__ == "__main__":
    unittest.main()
