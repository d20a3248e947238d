"""What a kept response varies by, and which requests it fits ([10.6])."""

import unittest

from support import octets

from ownanswer.keys import fits, vary_names


def response(*varies):
    return (200, (("x", "y"),) + tuple(("vary", value) for value in varies), (), ())


def entry(fields, *varies, target="/a"):
    return (octets(target), fields, response(*varies), 0, 0)


def request(fields, target="/a"):
    return ("GET", octets(target), fields, (), ())


class VaryNamesTest(unittest.TestCase):
    def test_names(self):
        for varies, wanted in (
            ((), []), (("accept",), ["accept"]), (("Accept, X-Y",), ["accept", "x-y"]), (("b, a", "C"), ["b", "a", "c"]), (("a, A",), ["a", "a"]),
            (("",), []), ((" , ,",), []), (("*",), ["*"]), (("a, *, b",), ["a", "*", "b"]), (('"a',), ["*"]), (("a", '"'), ["*"]), (('a, "', "b"), ["*"]),
            (('"a,B"',), ['"a,b"']),
        ):
            self.assertEqual(vary_names(response(*varies)), wanted, varies)
        self.assertIsInstance(vary_names(response("a")), list)


class FitsTest(unittest.TestCase):
    def alike(self, one, two, *varies):
        """Whether two requests with these fields fit, which is the same in both directions."""
        told = fits(entry(one, *varies), request(two))
        self.assertIs(fits(entry(two, *varies), request(one)), told)
        self.assertIsInstance(told, bool)
        return told

    def test_targets(self):
        self.assertTrue(fits(entry(()), request(())))
        for target in ("/b", "/a?", "/A", "/%61", "/a/", ""):
            self.assertFalse(fits(entry(()), request((), target)), target)

    def test_other_fields_count_for_nothing(self):
        self.assertTrue(self.alike((("a", "1"),), ()))
        self.assertTrue(self.alike((("a", "1"),), (("a", "2"),), "b"))

    def test_host(self):
        h = (("host", "h"),)
        self.assertTrue(self.alike(h, h))
        for other in ((), (("host", "H"),), (("host", "h:80"),), (("host", "h"), ("host", "h"))):
            self.assertFalse(self.alike(h, other), other)

    def test_varied_fields(self):
        for one, two, wanted in (
            ((("a", "1"),), (("a", "1"),), True), ((("a", "1"),), (("a", "2"),), False), ((("a", "1"),), (), False), ((), (), True),
            ((("a", "1"), ("a", "2")), (("a", "1, 2"),), True), ((("a", "1,2"),), (("a", "1 \t, 2"),), True), ((("a", "1, 2"),), (("a", "2, 1"),), False),
            ((("a", " 1"),), (("a", "1"),), True), ((("a", "1 2"),), (("a", "1  2"),), False), ((("a", "1,,2"),), (("a", "1, 2"),), True),
            ((("a", ""),), (), False), ((("a", ""),), (("a", ","),), True), ((("a", '"1,2"'),), (("a", '"1, 2"'),), False), ((("a", "x"),), (("a", "X"),), False),
            ((("a", '"x'),), (("a", '"x'),), True), ((("a", '"x , y'),), (("a", '"x, y'),), False), ((("a", '"x'),), (("a", "x"),), False),
            ((("a", '"'),), (), False), ((("a", '1, "'),), (("a", "1"), ("a", '"')), True), ((("a", "1"), ("b", "3")), (("a", "1"), ("b", "4")), True),
        ):
            self.assertEqual(self.alike(one, two, "a"), wanted, (one, two))
            self.assertEqual(self.alike(one, two, "c, A"), wanted, (one, two))
            self.assertEqual(self.alike(one, two, "c", "A"), wanted, (one, two))

    def test_each_element_counts(self):
        one, two = (("a", "1"), ("b", "3")), (("a", "1"), ("b", "4"))
        self.assertFalse(self.alike(one, two, "a, b"))
        self.assertFalse(self.alike(one, two, "b", "a"))
        self.assertTrue(self.alike(one, two, "a"))

    def test_never(self):
        for varies in (("*",), ("a, *",), ("a", "*"), ('"',), ("a", 'b, "')):
            self.assertFalse(self.alike((), (), *varies), varies)


if __name__ == "__main__":
    unittest.main()
