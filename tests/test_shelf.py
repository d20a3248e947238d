"""What may be kept, the shelf, and what a 304 leaves ([10.5], [10.7], [10.8])."""

import unittest

from support import octets

from ownanswer.dates import write_date
from ownanswer.shelf import Shelf, freshened, may_keep

AGED = ("cache-control", "max-age=60")
HOST = ("host", "h")


def request(*fields, method="GET", target="/a"):
    return (method, octets(target), fields, (), ())


def response(*fields, status=200, body=""):
    return (status, fields, octets(body), ())


def entry(target="/a", fields=(), answer=None, came=0):
    return (octets(target), fields, response() if answer is None else answer, came, came)


class MayKeepTest(unittest.TestCase):
    def told(self, asked, answer, came=0):
        found = may_keep(asked, answer, came)
        self.assertIsInstance(found, bool)
        return found

    def test_methods(self):
        self.assertTrue(self.told(request(HOST), response(AGED)))
        for method in ("HEAD", "POST", "PUT", "get", "OPTIONS"):
            self.assertFalse(self.told(request(HOST, method=method), response(AGED)), method)

    def test_range(self):
        for value in ("bytes=0-1", "x", ""):
            self.assertFalse(self.told(request(("range", value)), response(AGED)))
        self.assertTrue(self.told(request(("if-range", "x")), response(AGED)))

    def test_no_store(self):
        for value in ("no-store", "No-Store", "a, no-store=x", '"'):
            self.assertFalse(self.told(request(("cache-control", value)), response(AGED)), value)
            self.assertFalse(self.told(request(), response(("etag", '"x"'), AGED, ("cache-control", value))), value)
        for value in ("no-cache", "max-age=0", "private", "nostore", 'a="no-store"'):
            self.assertTrue(self.told(request(("cache-control", value)), response(AGED)), value)
            self.assertTrue(self.told(request(), response(AGED, ("cache-control", value))), value)

    def test_statuses(self):
        for status in range(100, 600):
            self.assertEqual(self.told(request(), response(AGED, status=status)), status in (200, 203, 300, 301, 404, 410), status)

    def test_vary(self):
        for value, right in (("a", True), ("", True), ("*", False), ("a, *", False), ('"', False), ('a, "b"', True)):
            self.assertEqual(self.told(request(), response(AGED, ("vary", value))), right, value)
        self.assertFalse(self.told(request(), response(AGED, ("vary", "a"), ("vary", "*"))))
        self.assertFalse(self.told(request(), response(AGED, ("vary", '"'), ("vary", "a"))))

    def test_lifetime_or_state(self):
        day = write_date(1000)
        for fields, right in (
            ((), False), ((("cache-control", "max-age=1"),), True), ((("cache-control", "max-age=0"),), False), ((("etag", '"x"'),), True),
            ((("etag", 'W/"x"'),), True), ((("etag", "x"),), False), ((("etag", '"x"'), ("etag", '"x"')), False), ((("last-modified", day),), True),
            ((("last-modified", "x"),), False), ((("last-modified", day), ("last-modified", day)), False),
            ((("etag", "x"), ("last-modified", day)), True), ((("etag", '"x"'), ("last-modified", "x")), True),
            ((("date", day), ("expires", write_date(1001))), True), ((("date", day), ("expires", day)), False),
            ((("cache-control", "max-age=0"), ("etag", '"x"')), True),
        ):
            self.assertEqual(self.told(request(), response(*fields)), right, fields)

    def test_years_of_two_digits(self):
        answer = response(("last-modified", "Saturday, 01-Jan-50 00:00:00 GMT"))
        self.assertTrue(self.told(request(), answer, 1700000000))
        self.assertFalse(self.told(request(), answer, 900000000))


class FreshenedTest(unittest.TestCase):
    OLD = (("a", "1"), ("etag", '"old"'), ("content-type", "t/old"), ("b", "2"), ("a", "3"), ("content-length", "2"))

    def fields(self, *new, status=304):
        old = (octets("/a"), (HOST,), (200, self.OLD, octets("hi"), (("t", "v"),)), 5, 6)
        target, fields, answer, asked, came = freshened(old, response(*new, status=status, body="no"), 10, 11)
        self.assertEqual((target, fields, asked, came), (octets("/a"), (HOST,), 10, 11))
        self.assertEqual((answer[0], answer[2]), (200, octets("hi")))
        self.assertEqual(old[2][1], self.OLD)
        return answer[1]

    def test_names_that_it_has(self):
        self.assertEqual(self.fields(), self.OLD)
        self.assertEqual(self.fields(("c", "4")), self.OLD + (("c", "4"),))
        self.assertEqual(self.fields(("a", "4")), self.OLD[1:4] + self.OLD[5:] + (("a", "4"),))
        self.assertEqual(self.fields(("d", "5"), ("etag", '"new"'), ("a", "6"), ("d", "7"), ("a", "8")),
                         self.OLD[2:4] + self.OLD[5:] + (("d", "5"), ("etag", '"new"'), ("a", "6"), ("d", "7"), ("a", "8")))

    def test_names_that_stay(self):
        for name in ("content-length", "content-range", "content-encoding", "content-type"):
            self.assertEqual(self.fields((name, "new")), self.OLD, name)
            self.assertEqual(self.fields(("c", "4"), (name, "new"), ("b", "5")), self.OLD[:3] + self.OLD[4:] + (("c", "4"), ("b", "5")), name)
        self.assertEqual(self.fields(("content-language", "de")), self.OLD + (("content-language", "de"),))


class ShelfTest(unittest.TestCase):
    def shelf(self, room, *entries):
        shelf = Shelf(room)
        for one in entries:
            shelf.put(one)
        return shelf

    def test_rooms(self):
        a, b, c = entry("/a"), entry("/b"), entry("/c")
        for room, wanted in ((0, []), (1, [c]), (2, [b, c]), (3, [a, b, c]), (9, [a, b, c])):
            self.assertEqual(self.shelf(room, a, b, c).entries(), wanted)
        self.assertIsNone(self.shelf(0, a).find(request()))
        self.assertEqual(Shelf(5).entries(), [])

    def test_find(self):
        a, b = entry("/a"), entry("/b")
        shelf = self.shelf(5, a, b)
        self.assertEqual(shelf.find(request(target="/a")), a)
        self.assertEqual(shelf.find(request(target="/b")), b)
        self.assertIsNone(shelf.find(request(target="/c")))
        self.assertIsNone(shelf.find(request(HOST)))
        # The method is not looked at.
        self.assertEqual(shelf.find(request(method="HEAD")), a)

    def test_the_order_of_use(self):
        a, b, c = entry("/a"), entry("/b"), entry("/c")
        shelf = self.shelf(3, a, b, c)
        shelf.find(request(target="/a"))
        self.assertEqual(shelf.entries(), [b, c, a])
        shelf.find(request(target="/x"))
        self.assertEqual(shelf.entries(), [b, c, a])
        shelf.find(request(target="/b"))
        self.assertEqual(shelf.entries(), [c, a, b])
        shelf.put(entry("/d"))
        self.assertEqual(shelf.entries(), [a, b, entry("/d")])
        shelf.put(entry("/a", came=7))
        self.assertEqual(shelf.entries(), [b, entry("/d"), entry("/a", came=7)])

    def test_put_takes_the_place_of_those_that_fit(self):
        varied = response(("vary", "x"))
        one, two, plain = entry("/a", (("x", "1"),), varied), entry("/a", (("x", "2"),), varied), entry("/a", (("x", "3"),))
        self.assertEqual(self.shelf(5, one, two).entries(), [one, two])
        # The new one's request counts, and the Vary of those that are there.
        self.assertEqual(self.shelf(5, one, two, plain).entries(), [one, two, plain])
        self.assertEqual(self.shelf(5, plain, one).entries(), [one])
        again = entry("/a", (("x", "1"), ("y", "9")), varied, 3)
        self.assertEqual(self.shelf(5, one, two, again).entries(), [two, again])
        self.assertEqual(self.shelf(5, plain, entry("/a", (("x", "3"), HOST))).entries(), [plain, entry("/a", (("x", "3"), HOST))])
        # Several may go at once.
        other = entry("/a", (("x", "1"), ("y", "1")), response(("vary", "y")))
        shelf = self.shelf(5, entry("/a", (("x", "1"),), varied), other)
        self.assertEqual(shelf.entries(), [other])
        shelf = self.shelf(5, entry("/a", (("y", "1"),), response(("vary", "y"))), entry("/a", (("x", "1"),), varied), entry("/b"))
        self.assertEqual(len(shelf.entries()), 3)
        shelf.put(entry("/a", (("x", "1"), ("y", "1"))))
        self.assertEqual(shelf.entries(), [entry("/b"), entry("/a", (("x", "1"), ("y", "1")))])

    def test_the_same_again_needs_no_room(self):
        a, b = entry("/a"), entry("/b")
        self.assertEqual(self.shelf(2, a, b, entry("/a", came=5)).entries(), [b, entry("/a", came=5)])

    def test_the_latest_date(self):
        # An entry of a varied response and one of a response that does not vary both fit.
        for early, late, wanted in ((100, 200, 1), (200, 100, 0), (100, 100, 1), (None, 100, 1), (100, None, 0), (None, None, 1), ("x", 100, 1), (100, "x", 0),
                                    ("x", None, 1), (0, None, 1), (None, 0, 1)):
            rows = []
            for at, date in enumerate((early, late)):
                fields = () if date is None else (("date", write_date(date) if isinstance(date, int) else date),)
                # The first one varies by v, and the second request has another v.
                rows.append(entry("/a", (("v", str(at)),), response(*fields, ("vary", "v" if at == 0 else "w"))))
            shelf = self.shelf(5, *rows)
            self.assertEqual(shelf.entries(), rows)
            self.assertEqual(shelf.find(request(("v", "0"))), rows[wanted], (early, late))
            self.assertEqual(shelf.entries()[-1], rows[wanted])
            self.assertEqual(shelf.find(request(("v", "7"))), rows[1])

    def test_of_equals_the_last_put(self):
        one = entry("/a", (("v", "0"),), response(("vary", "v")))
        two = entry("/a", (("v", "1"),), response(("vary", "w")))
        shelf = self.shelf(5, one, two)
        # Use does not change which one was put last.
        self.assertEqual(shelf.find(request(("v", "0"), ("w", "1"))), one)
        self.assertEqual(shelf.entries(), [two, one])
        self.assertEqual(shelf.find(request(("v", "0"))), two)

    def test_two_dates_cannot_be_read(self):
        twice = (("date", write_date(500)), ("date", write_date(500)))
        one = entry("/a", (("v", "0"),), response(("vary", "v"), ("date", write_date(100))))
        two = entry("/a", (("v", "1"),), response(("vary", "w"), *twice))
        self.assertEqual(self.shelf(5, one, two).find(request(("v", "0"))), one)

    def test_drop(self):
        varied = response(("vary", "x"))
        rows = [entry("/a", (("x", "1"),), varied), entry("/b"), entry("/a", (("x", "2"),), varied), entry("/a?")]
        shelf = self.shelf(9, *rows)
        shelf.drop(octets("/c"))
        self.assertEqual(shelf.entries(), rows)
        shelf.drop(octets("/a"))
        self.assertEqual(shelf.entries(), [rows[1], rows[3]])

    def test_what_was_returned_stays(self):
        shelf = self.shelf(5, entry("/a"), entry("/b"))
        before = shelf.entries()
        shelf.put(entry("/c"))
        shelf.drop(octets("/a"))
        shelf.find(request(target="/b"))
        self.assertEqual(before, [entry("/a"), entry("/b")])
        before.clear()
        self.assertEqual(shelf.entries(), [entry("/c"), entry("/b")])


if __name__ == "__main__":
    unittest.main()
