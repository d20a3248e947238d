"""Lifetimes and ages ([10.2], [10.3])."""

import unittest

from ownanswer.dates import write_date
from ownanswer.freshness import age, age_when_come, is_fresh, lifetime

NOW = 1700000000
GUESSED = (200, 203, 204, 300, 301, 404, 405, 410, 414, 501)


def response(*fields, status=200):
    """A response; integers are written as dates."""
    return (status, tuple((name, write_date(value) if isinstance(value, int) else value) for name, value in fields), (), ())


def told(*fields, status=200, came=NOW):
    return lifetime(response(*fields, status=status), came)


class LifetimeTest(unittest.TestCase):
    def test_max_age(self):
        for value, wanted in (("max-age=60", 60), ("max-age=0", 0), ("MAX-AGE=7", 7), ('max-age="8"', 8), ("max-age=x", 0), ("max-age", 0), ("max-age=-1", 0),
                              ("max-age=5, max-age=9", 5), ("max-age=x, max-age=9", 0), ("max-age, max-age=9", 0), ("max-age=" + "9" * 20, 2 ** 31),
                              ("max-age=" + "9" * 21, 0), ("a, no-cache, max-age=3", 3)):
            self.assertEqual(told(("cache-control", value)), wanted, value)
            # It stands ahead of all others.
            self.assertEqual(told(("date", NOW), ("expires", NOW + 500), ("last-modified", 0), ("cache-control", value), status=500), wanted)
        self.assertEqual(told(("cache-control", "a"), ("cache-control", "max-age=4")), 4)

    def test_other_directives_count_for_nothing(self):
        for value in ("s-maxage=60", "max-stale=60", "no-store", 'max-age=60, "', "max-age= 60", "max-age =60"):
            self.assertEqual(told(("cache-control", value)), 0)
            self.assertEqual(told(("cache-control", value), ("date", NOW), ("expires", NOW + 5)), 5)

    def test_expires(self):
        for fields, wanted in (
            ((("date", 1000), ("expires", 1600)), 600), ((("date", 1000), ("expires", 1000)), 0), ((("date", 1000), ("expires", 999)), 0),
            ((("expires", 1600),), 0), ((("date", "x"), ("expires", 1600)), 0), ((("date", 1000), ("expires", "0")), 0),
            ((("date", 1000), ("expires", 1600), ("expires", 1600)), 0), ((("date", 1000), ("expires", "x"), ("expires", 1600)), 0),
            ((("date", 1000), ("date", 1000), ("expires", 1600)), 0), ((("date", 1000), ("expires", "")), 0),
            ((("date", 1000), ("expires", "Thu Jan  1 00:20:00 1970")), 200),
        ):
            for status in (200, 500, 302):
                self.assertEqual(told(*fields, status=status), wanted, fields)
            # Last-Modified is not looked at beside Expires.
            self.assertEqual(told(*fields, ("last-modified", 0)), wanted, fields)

    def test_last_modified(self):
        for fields, wanted in (
            ((("date", 1000), ("last-modified", 0)), 100), ((("date", 1000), ("last-modified", 991)), 0), ((("date", 1000), ("last-modified", 990)), 1),
            ((("date", 1000), ("last-modified", 981)), 1), ((("date", 1000), ("last-modified", 1000)), 0), ((("date", 1000), ("last-modified", 5000)), 0),
            ((("last-modified", 0),), 0), ((("date", 1000),), 0), ((("date", "x"), ("last-modified", 0)), 0), ((("date", 1000), ("last-modified", "x")), 0),
            ((("date", 1000), ("date", 1000), ("last-modified", 0)), 0), ((("date", 1000), ("last-modified", 0), ("last-modified", 0)), 0),
            ((("date", 1000), ("last-modified", 0), ("last-modified", "x")), 0), ((), 0),
        ):
            self.assertEqual(told(*fields), wanted, fields)

    def test_statuses(self):
        for status in range(100, 600):
            self.assertEqual(told(("date", 1000), ("last-modified", 0), status=status), 100 if status in GUESSED else 0, status)

    def test_years_of_two_digits(self):
        dashed = ("expires", "Saturday, 01-Jan-50 00:00:10 GMT")
        # The year 50 is 2050 in 2023 and 1950 in 1999.
        self.assertEqual(told(("date", "Sat, 01 Jan 2050 00:00:00 GMT"), dashed), 10)
        self.assertEqual(told(("date", "Sat, 01 Jan 2050 00:00:00 GMT"), dashed, came=900000000), 0)
        old = ("last-modified", "Friday, 01-Jan-99 00:00:00 GMT")
        self.assertEqual(told(("date", "Fri, 01 Jan 1999 00:01:40 GMT"), old), 10)


class AgeTest(unittest.TestCase):
    def test_the_age_when_it_came(self):
        for fields, asked, came, wanted in (
            ((), 1000, 1000, 0), ((), 990, 1000, 10), ((("date", 900),), 1000, 1000, 100), ((("date", 1100),), 1000, 1000, 0),
            ((("date", 995),), 990, 1000, 10), ((("date", 900),), 990, 1000, 100), ((("age", "7"),), 1000, 1000, 7), ((("age", "7"),), 990, 1000, 17),
            ((("age", "200"), ("date", 900)), 1000, 1000, 200), ((("age", "50"), ("date", 900)), 1000, 1000, 100), ((("age", "95"), ("date", 900)), 990, 1000, 105),
            ((("date", "x"),), 1000, 1000, 0), ((("date", 900), ("date", 900)), 1000, 1000, 0), ((("age", "x"),), 990, 1000, 10), ((("age", "-7"),), 990, 1000, 10),
            ((("age", "7"), ("age", "7")), 990, 1000, 10), ((("age", "7, 8"),), 1000, 1000, 0), ((("age", "9" * 20),), 0, 5, 2 ** 31 + 5),
            ((("age", "9" * 21),), 0, 5, 5), ((("age", ""),), 1000, 1000, 0),
        ):
            self.assertEqual(age_when_come(response(*fields), asked, came), wanted, fields)

    def test_years_of_two_digits(self):
        fields = (("date", "Saturday, 01-Jan-50 00:00:00 GMT"),)
        # It is to come, seen from 2023; in 1999 it means 1950, which no date may be.
        self.assertEqual(age_when_come(response(*fields), NOW, NOW), 0)
        self.assertEqual(age_when_come(response(("date", "Friday, 01-Jan-99 00:00:00 GMT")), NOW, NOW), NOW - 915148800)

    def test_the_age_at_a_time(self):
        entry = ((47,), (), response(("date", 900), ("age", "7")), 990, 1000)
        for now in (1000, 1001, 5000):
            self.assertEqual(age(entry, now), 100 + now - 1000)
        self.assertEqual(age(((47,), (), response(("age", "9" * 20)), 0, 5), 10), 2 ** 31 + 10)

    def test_fresh(self):
        entry = ((47,), (), response(("cache-control", "max-age=60"), ("age", "10")), 1000, 1000)
        for now, wanted in ((1000, True), (1049, True), (1050, False), (1051, False)):
            self.assertIs(is_fresh(entry, now), wanted)
        self.assertIs(is_fresh(((47,), (), response(), 0, 0), 0), False)
        self.assertIs(is_fresh(((47,), (), response(("date", 1000), ("expires", 1010)), 1000, 1009), 1009), True)
        self.assertIs(is_fresh(((47,), (), response(("date", 1000), ("expires", 1010)), 1000, 1010), 1010), False)


if __name__ == "__main__":
    unittest.main()
