import itertools
import unittest

from ownanswer.conditions import judge
from ownanswer.dates import write_date

NOW = 1500000000
TIME = 1488603967
BEFORE, SAME, BEHIND = (write_date(TIME + shift) for shift in (-1, 0, 1))
TAG = (False, "x")
WEAK = (True, "x")
METHODS = ("GET", "HEAD", "PUT", "DELETE", "POST")
READING = ("GET", "HEAD")


def judged(method, *fields, tag=TAG, modified=TIME):
    return judge(method, tuple(fields), tag, modified, NOW)


class ConditionsTest(unittest.TestCase):
    def passes(self, *fields, methods=METHODS, tag=TAG, modified=TIME):
        for method in methods:
            self.assertEqual(judged(method, *fields, tag=tag, modified=modified), (0, True), (method, fields))

    def fails(self, *fields, methods=METHODS, tag=TAG, modified=TIME):
        for method in methods:
            self.assertEqual(judged(method, *fields, tag=tag, modified=modified), (412, True), (method, fields))

    def is_known(self, *fields, tag=TAG, modified=TIME):
        for method in METHODS:
            wanted = 304 if method in READING else 412
            self.assertEqual(judged(method, *fields, tag=tag, modified=modified), (wanted, True), (method, fields))

    def test_without_fields(self):
        self.passes()
        self.passes(tag=None, modified=None)
        self.passes(("host", "h"), ("etag", '"y"'), ("last-modified", BEFORE))

    def test_if_match(self):
        for value in ("*", '"x"', '"y", "x"', '"x","y"', 'W/"x", "x"', ',"x",'):
            self.passes(("if-match", value))
        for value in ('"y"', 'W/"x"', '"y", W/"x"', '""', '"X"', "x", "", '"x', 'x, "x"', '*, "x"', 'w/"x"'):
            self.fails(("if-match", value))

    def test_if_match_with_a_weak_tag_there(self):
        self.passes(("if-match", "*"), tag=WEAK)
        self.fails(("if-match", '"x"'), tag=WEAK)
        self.fails(("if-match", 'W/"x"'), tag=WEAK)

    def test_if_match_with_nothing_there(self):
        for value in ("*", '"x"', 'W/"x"', "x"):
            self.fails(("if-match", value), tag=None, modified=None)
            self.fails(("if-match", value), tag=None)

    def test_if_unmodified_since(self):
        self.passes(("if-unmodified-since", SAME))
        self.passes(("if-unmodified-since", BEHIND))
        self.fails(("if-unmodified-since", BEFORE))
        self.passes(("if-unmodified-since", BEFORE), modified=None)
        self.passes(("if-unmodified-since", BEFORE), tag=None, modified=None)
        self.fails(("if-unmodified-since", BEFORE), tag=None)
        for value in ("", "x", BEFORE[:-1], f"{BEFORE}, {BEFORE}", '"y"', "*"):
            self.passes(("if-unmodified-since", value))

    def test_if_match_hides_if_unmodified_since(self):
        self.passes(("if-match", '"x"'), ("if-unmodified-since", BEFORE))
        self.passes(("if-unmodified-since", BEFORE), ("if-match", "*"))
        self.fails(("if-match", '"y"'), ("if-unmodified-since", BEHIND))

    def test_if_none_match(self):
        for value in ("*", '"x"', 'W/"x"', '"y", W/"x"', '"x", "y"'):
            self.is_known(("if-none-match", value))
            self.is_known(("if-none-match", value), tag=WEAK)
            self.passes(("if-none-match", value), tag=None, modified=None)
        for value in ('"y"', '"y", W/"z"', '""', "x", "", '"x', '*, "x"'):
            self.passes(("if-none-match", value))

    def test_if_modified_since(self):
        for value, wanted in ((BEFORE, 0), (SAME, 304), (BEHIND, 304), ("x", 0), ("", 0), (f"{SAME}, {SAME}", 0)):
            for method in METHODS:
                status = wanted if method in READING else 0
                self.assertEqual(judged(method, ("if-modified-since", value)), (status, True), (method, value))
        self.passes(("if-modified-since", BEHIND), modified=None)
        for method in READING:
            self.assertEqual(judged(method, ("if-modified-since", BEHIND), tag=None), (304, True))

    def test_if_none_match_hides_if_modified_since(self):
        self.passes(("if-none-match", '"y"'), ("if-modified-since", BEHIND))
        self.is_known(("if-none-match", '"x"'), ("if-modified-since", BEFORE))
        # One that cannot be read is not there.
        for method in READING:
            self.assertEqual(judged(method, ("if-none-match", "y"), ("if-modified-since", BEHIND)), (304, True))

    def test_the_order_of_the_steps(self):
        self.is_known(("if-match", '"x"'), ("if-none-match", '"x"'))
        self.fails(("if-match", '"y"'), ("if-none-match", '"x"'))
        self.fails(("if-unmodified-since", BEFORE), ("if-none-match", '"x"'))
        self.is_known(("if-unmodified-since", BEHIND), ("if-none-match", '"x"'))
        self.assertEqual(judged("GET", ("if-match", "*"), ("if-modified-since", SAME)), (304, True))
        self.assertEqual(judged("GET", ("if-unmodified-since", SAME), ("if-modified-since", SAME)), (304, True))
        self.assertEqual(judged("GET", ("range", "bytes=0-1"), ("if-none-match", '"x"')), (304, True))
        self.assertEqual(judged("GET", ("range", "bytes=0-1"), ("if-match", '"y"')), (412, True))

    def test_dates_of_other_forms(self):
        for value in ("Saturday, 04-Mar-17 05:06:07 GMT", "Sat Mar  4 05:06:07 2017"):
            self.assertEqual(judged("GET", ("if-modified-since", value)), (304, True))
            self.assertEqual(judged("GET", ("if-modified-since", value), modified=TIME + 1), (0, True))
            self.assertEqual(judged("GET", ("range", "bytes=0-1"), ("if-range", value)), (0, False))
        # The year of two digits is one at most 50 years behind now.
        value = "Thursday, 04-Mar-38 05:06:07 GMT"
        self.assertEqual(judge("GET", (("if-modified-since", value),), TAG, TIME, NOW), (304, True))
        value = "Saturday, 05-Mar-38 05:06:07 GMT"
        self.assertEqual(judge("GET", (("if-modified-since", value),), TAG, TIME, 0), (0, True))

    def test_fields_that_come_twice(self):
        self.passes(("if-match", '"y"'), ("if-match", '"x"'))
        self.fails(("if-match", '"y"'), ("if-match", '"z"'))
        self.fails(("if-match", '"x"'), ("if-match", "z"))
        self.fails(("if-match", "*"), ("if-match", "*"))
        self.is_known(("if-none-match", '"y"'), ("host", "h"), ("if-none-match", 'W/"x"'))
        self.passes(("if-none-match", "*"), ("if-none-match", "*"))
        self.passes(("if-unmodified-since", BEFORE), ("if-unmodified-since", BEFORE))
        self.passes(("if-modified-since", SAME), ("if-modified-since", SAME))
        # The quoted string goes on in the second value.
        self.fails(("if-match", '"x'), ("if-match", '"'))
        self.assertEqual(judged("GET", ("range", "bytes=0-1"), ("range", "3-4")), (0, False))
        self.assertEqual(judged("GET", ("range", "bytes=0-1"), ("range", "bytes=3-4")), (0, True))
        for value in ('"x"', SAME):
            self.assertEqual(judged("GET", ("range", "bytes=0-1"), ("if-range", value), ("if-range", value)), (0, True))


class RangeTest(unittest.TestCase):
    def test_range(self):
        for method in METHODS:
            wanted = (0, method != "GET")
            for value in ("bytes=0-1", "bytes=-1", "bytes=90-", "BYTES=0-1, 3-", "bytes=-0"):
                self.assertEqual(judged(method, ("range", value)), wanted, method)
                self.assertEqual(judged(method, ("range", value), tag=None, modified=None), wanted, method)

    def test_a_range_that_cannot_be_read(self):
        for value in ("", "x", "lines=0-1", "bytes=", "bytes=4-3", "bytes=" + ",".join(["0-1"] * 21), "bytes=" + "1" * 16 + "-"):
            self.assertEqual(judged("GET", ("range", value)), (0, True), value)

    def test_if_range(self):
        for value, part in (
            ('"x"', True), ('W/"x"', False), ('"y"', False), ("x", False), ("", False), ("*", False), ('"x", "x"', False), ('"x', False),
            (SAME, True), (BEFORE, False), (BEHIND, False), (SAME[:-1], False),
        ):
            for method in METHODS:
                wanted = (0, not (part and method == "GET"))
                self.assertEqual(judged(method, ("range", "bytes=0-1"), ("if-range", value)), wanted, (method, value))
            self.assertEqual(judged("GET", ("if-range", value)), (0, True), value)

    def test_if_range_and_what_is_there(self):
        fields = (("range", "bytes=0-1"), ("if-range", '"x"'))
        for tag, part in ((TAG, True), (WEAK, False), ((False, "y"), False), (None, False)):
            self.assertEqual(judged("GET", *fields, tag=tag), (0, not part), tag)
        self.assertEqual(judged("GET", *fields, modified=None), (0, False))
        fields = (("range", "bytes=0-1"), ("if-range", SAME))
        self.assertEqual(judged("GET", *fields, modified=None), (0, True))
        self.assertEqual(judged("GET", *fields, tag=None), (0, False))

    def test_behind_other_conditions(self):
        fields = (("if-match", '"x"'), ("if-none-match", '"y"'), ("range", "bytes=0-1"))
        self.assertEqual(judged("GET", *fields), (0, False))
        self.assertEqual(judged("HEAD", *fields), (0, True))


class TableTest(unittest.TestCase):
    """All mixtures of a few values, judged a second time by a table of what each value says."""

    MATCH = ((None, None), ("*", "any"), ('"x"', "strong"), ('W/"x"', "weak"), ('"y"', "none"), ("?", "bad"))
    DATES = ((None, None), (BEFORE, -1), (SAME, 0), (BEHIND, 1), ("?", None))

    def second(self, method, match, unmodified, none_match, modified_since, there):
        tag = there is not None
        strong = there == "strong"
        if match is not None:
            if not (tag and (match == "any" or (match == "strong" and strong))):
                return 412
        elif unmodified == -1 and tag:
            return 412
        if none_match not in (None, "bad"):
            if tag and none_match in ("any", "strong", "weak"):
                return 304 if method in READING else 412
        elif method in READING and modified_since in (0, 1) and tag:
            return 304
        return 0

    def test_all(self):
        names = ("if-match", "if-unmodified-since", "if-none-match", "if-modified-since")
        tags = {"strong": (TAG, TIME), "weak": (WEAK, TIME), None: (None, None)}
        for rows in itertools.product(self.MATCH, self.DATES, self.MATCH, self.DATES):
            fields = tuple((name, value) for name, (value, _) in zip(names, rows) if value is not None)
            for method in METHODS:
                for there, (tag, modified) in tags.items():
                    wanted = self.second(method, *(meaning for _, meaning in rows), there)
                    self.assertEqual(judge(method, fields, tag, modified, NOW), (wanted, True), (method, fields, there))


if __name__ == "__main__":
    unittest.main()
