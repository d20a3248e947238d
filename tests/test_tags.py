import itertools
import re
import unittest

from ownanswer.tags import read_tag, read_tags, strong_match, weak_match, write_tag

SIGNS = "".join(chr(octet) for octet in range(33, 127) if chr(octet) not in '"\\%')


class TagTest(unittest.TestCase):
    def test_read(self):
        for text, wanted in (
            ('"a"', (False, "a")), ('W/"a"', (True, "a")), ('""', (False, "")), ('W/""', (True, "")), ('"W/"', (False, "W/")),
            ('"a,b;c"', (False, "a,b;c")), (f'"{SIGNS}"', (False, SIGNS)), ('"*"', (False, "*")),
        ):
            self.assertEqual(read_tag(text), wanted, text)
            self.assertIsInstance(read_tag(text)[0], bool)

    def test_other_forms(self):
        for text in ("", "a", '"', '"a', 'a"', 'w/"a"', 'W"a"', 'W/a', "W/", 'W/"', 'W/"a', 'W/a"', 'W /"a"', 'W/ "a"', 'W/W/"a"', '"a"b',
                     'a"b"', '"a" ', ' "a"', '"a b"', '"a\tb"', '"a"b"', '"""', '"a\\"', '"\\a"', '"\\""', "*", "'a'", '"a","b"', '/"a"'):
            self.assertIsNone(read_tag(text), text)

    def test_each_sign(self):
        for octet in range(32, 127):
            if octet != 37:
                sign = chr(octet)
                wanted = (False, sign) if sign in SIGNS else None
                self.assertEqual(read_tag(f'"{sign}"'), wanted, sign)
                self.assertEqual(read_tag(f'"x{sign}y"') is None, wanted is None, sign)

    def test_write(self):
        self.assertEqual(write_tag((False, "a")), '"a"')
        self.assertEqual(write_tag((True, "a")), 'W/"a"')
        self.assertEqual(write_tag((False, "")), '""')
        for weak in (False, True):
            for text in ("", "a", SIGNS, "W/", "a,b"):
                self.assertEqual(read_tag(write_tag((weak, text))), (weak, text))

    def test_every_short_text(self):
        form = re.compile(r'(W/)?"([^"\\ ]*)"')
        for length in range(6):
            for signs in itertools.product('W/"a\\ ', repeat=length):
                text = "".join(signs)
                match = form.fullmatch(text)
                wanted = None if match is None else (match.group(1) is not None, match.group(2))
                self.assertEqual(read_tag(text), wanted, text)


class TagsTest(unittest.TestCase):
    def test_lists(self):
        for value, wanted in (
            ('"a"', [(False, "a")]), ('"a","b"', [(False, "a"), (False, "b")]), ('W/"a" ,\t"b"', [(True, "a"), (False, "b")]),
            (',, "a" ,,W/"b",', [(False, "a"), (True, "b")]), ('"a,b", "c"', [(False, "a,b"), (False, "c")]), ('""', [(False, "")]),
            ('"a","a"', [(False, "a"), (False, "a")]), ('"*"', [(False, "*")]), ("*", "*"),
        ):
            self.assertEqual(read_tags(value), wanted, value)

    def test_other_forms(self):
        for value in ("", ",", " , ,", "a", '"a", b', 'b, "a"', '"a" "b"', '"a""b"', '"a","b', '"a', '*, "a"', '"a", *', "*,*", "**", "*,",
                      '"a b"', 'w/"a"', '"a", w/"b"', '"a\\",b"', '"a\\"', '"a";q=1'):
            self.assertIsNone(read_tags(value), value)

    def test_new_lists(self):
        read_tags('"a"').append("x")
        self.assertEqual(read_tags('"a"'), [(False, "a")])


class MatchTest(unittest.TestCase):
    def test_matches(self):
        for one, two, strong, weak in (
            ((False, "a"), (False, "a"), True, True), ((True, "a"), (False, "a"), False, True), ((True, "a"), (True, "a"), False, True),
            ((False, "a"), (False, "b"), False, False), ((True, "a"), (True, "b"), False, False), ((False, "a"), (False, "A"), False, False),
            ((False, ""), (False, ""), True, True), ((True, ""), (False, ""), False, True), ((True, "a"), (False, "b"), False, False),
        ):
            for first, second in ((one, two), (two, one)):
                self.assertIs(strong_match(first, second), strong, (first, second))
                self.assertIs(weak_match(first, second), weak, (first, second))


if __name__ == "__main__":
    unittest.main()
