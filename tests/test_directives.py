"""The directives of Cache-Control ([10.1])."""

import unittest

from ownanswer.directives import directive, read_directives, seconds


def read(*rows):
    return read_directives(tuple(("cache-control", value) for value in rows))


class ReadTest(unittest.TestCase):
    def test_names_and_values(self):
        for value, wanted in (
            ("no-cache", (("no-cache", None),)), ("No-Cache", (("no-cache", None),)), ("MAX-AGE=Abc", (("max-age", "Abc"),)),
            ("max-age=60, no-store", (("max-age", "60"), ("no-store", None))), ("a,b ,\tc", (("a", None), ("b", None), ("c", None))),
            ('max-age="60"', (("max-age", "60"),)), ('a="x, y", b', (("a", "x, y"), ("b", None))), ('a=""', (("a", ""),)),
            ('a="q\\"u\\\\o,te"', (("a", 'q"u\\o,te'),)), ("a=1, A=2", (("a", "1"), ("a", "2"))), ("!#$&'*+-.^_`|~0=~", (("!#$&'*+-.^_`|~0", "~"),)),
        ):
            self.assertEqual(read(value), wanted, value)

    def test_other_forms_are_left_out(self):
        for value in ("a=", "=a", "=", "a =b", "a= b", "a b", "a;b", 'a="x"y', 'a=x"y"', "a=b=c", '"a"', 'a="b"=c', "(a)", "a=b c", "a=b;c"):
            self.assertEqual(read(value), (), value)
            self.assertEqual(read("x, " + value + ", y=1"), (("x", None), ("y", "1")), value)

    def test_empty_places(self):
        for value in ("", ",", " , ,, ", "\t"):
            self.assertEqual(read(value), (), value)
        self.assertEqual(read(",a,,b,"), (("a", None), ("b", None)))

    def test_several_fields(self):
        fields = (("cache-control", "a, b"), ("x", "no-store"), ("cache-control", "c=1"), ("pragma", "no-cache"))
        self.assertEqual(read_directives(fields), (("a", None), ("b", None), ("c", "1")))
        # They are joined before they are cut.
        self.assertEqual(read('a="x', 'y"'), (("a", "x, y"),))
        self.assertEqual(read_directives(()), ())
        self.assertEqual(read_directives((("x", "a"),)), ())

    def test_a_quote_that_is_not_closed(self):
        for rows in (('a="x',), ('"',), ("max-age=60", 'b="'), ('a="\\"', "max-age=5"), ('max-age=60, "',)):
            self.assertEqual(read(*rows), (("no-store", None),), rows)

    def test_kinds(self):
        self.assertIsInstance(read("a=b"), tuple)
        self.assertIsInstance(read("a=b")[0], tuple)


class DirectiveTest(unittest.TestCase):
    def test_the_first_one(self):
        rows = (("a", "1"), ("b", None), ("a", "2"), ("b", "3"))
        self.assertEqual(directive(rows, "a"), (True, "1"))
        self.assertEqual(directive(rows, "b"), (True, None))
        self.assertEqual(directive(rows, "c"), (False, None))
        self.assertEqual(directive((), "a"), (False, None))
        self.assertEqual(directive(read("Max-Age=1, max-age=2"), "max-age"), (True, "1"))


class SecondsTest(unittest.TestCase):
    def test_seconds(self):
        for text, wanted in (
            ("0", 0), ("7", 7), ("007", 7), ("0" * 19 + "9", 9), ("0" * 20, 0), ("0" * 21, None), ("2147483647", 2 ** 31 - 1), ("2147483648", 2 ** 31),
            ("2147483649", 2 ** 31), ("9" * 20, 2 ** 31), ("9" * 21, None), ("1" + "0" * 20, None), ("", None), ("-1", None), ("+1", None), ("1.0", None),
            (" 1", None), ("1 ", None), ("x", None), ("1x", None), ("0x1", None), ("1_0", None), (None, None),
        ):
            self.assertEqual(seconds(text), wanted, text)


if __name__ == "__main__":
    unittest.main()
