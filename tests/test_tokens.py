import itertools
import random
import re
import unittest

from ownanswer.tokens import join_values, read_params, read_quoted, read_weight, split_list, write_quoted


class QuotedTest(unittest.TestCase):
    def test_read(self):
        for text, wanted in (
            ('""', ""), ('"a"', "a"), ('"a b,;=\t"', "a b,;=\t"), ('"\\""', '"'), ('"\\\\"', "\\"), ('"\\a\\b"', "ab"),
            ('"a\\"b\\\\c"', 'a"b\\c'), ('"\\\\\\""', '\\"'),
        ):
            self.assertEqual(read_quoted(text), wanted, text)

    def test_other_forms(self):
        for text in ("", '"', "a", '"a', 'a"', '"a"b', 'b"a"', '"a""b"', '"a" ', ' "a"', '"\\"', '"a\\"', '"""', "'a'",
                     '"\\\\\\"', '""""'):
            self.assertIsNone(read_quoted(text), text)

    def test_write(self):
        self.assertEqual(write_quoted(""), '""')
        self.assertEqual(write_quoted("a b"), '"a b"')
        self.assertEqual(write_quoted('a"b\\c'), '"a\\"b\\\\c"')

    def test_what_is_written_is_read(self):
        for length in range(5):
            for signs in itertools.product('a"\\,;', repeat=length):
                text = "".join(signs)
                self.assertEqual(read_quoted(write_quoted(text)), text)

    def test_every_short_text(self):
        form = re.compile(r'"((?:[^"\\]|\\.)*)"')
        for length in range(7):
            for signs in itertools.product('a"\\', repeat=length):
                text = "".join(signs)
                found = form.fullmatch(text)
                wanted = None if found is None else re.sub(r"\\(.)", r"\1", found.group(1))
                self.assertEqual(read_quoted(text), wanted, text)


class ListsTest(unittest.TestCase):
    def test_example(self):
        self.assertEqual(split_list('a, "b,c" ,,d'), ["a", '"b,c"', "d"])

    def test_elements(self):
        for value, wanted in (
            ("", []), (" \t", []), (",", []), (", ,\t,", []), ("a", ["a"]), (" a\t", ["a"]), ("a,b", ["a", "b"]),
            ("a b , c", ["a b", "c"]), ('""', ['""']), ('"," , ","', ['","', '","']), ('a",b"c,d', ['a",b"c', "d"]),
            ('"\\",",a', ['"\\","', "a"]), ('"\\\\",a', ['"\\\\"', "a"]), ("\\,a", ["\\", "a"]), ('\\",",a', ['\\","', "a"]),
            ("a;b=1, c;d=\"x,y\"", ["a;b=1", 'c;d="x,y"']), ("a\t,\tb", ["a", "b"]),
        ):
            self.assertEqual(split_list(value), wanted, value)

    def test_not_closed(self):
        for value in ('"', 'a, "b', '"a\\"', '"a" "', 'a", b', '"\\\\\\"', ',,"'):
            self.assertIsNone(split_list(value), value)

    def test_new_lists(self):
        first = split_list("a,b")
        first.append("x")
        self.assertEqual(split_list("a,b"), ["a", "b"])

    def test_join(self):
        fields = (("a", "1, 2"), ("b", "x"), ("a", ""), ("a", "3"))
        self.assertEqual(join_values(fields, "a"), "1, 2, , 3")
        self.assertEqual(join_values(fields, "b"), "x")
        self.assertIsNone(join_values(fields, "c"))
        self.assertIsNone(join_values((), "a"))
        self.assertEqual(join_values((("a", ""),), "a"), "")


class ParamsTest(unittest.TestCase):
    def test_good(self):
        for element, wanted in (
            ("a", ("a", ())), ("", ("", ())), (" a b\t", ("a b", ())), ("text/plain;q=1", ("text/plain", (("q", "1"),))),
            ("a;B=C", ("a", (("b", "C"),))), ("a ;\tb=c\t; d=e", ("a", (("b", "c"), ("d", "e")))),
            ("a;b=c;b=d", ("a", (("b", "c"), ("b", "d")))), ('a;b="c;d"', ("a", (("b", "c;d"),))),
            ('a;b="\\"\\\\"', ("a", (("b", '"\\'),))), ('a;b=""', ("a", (("b", ""),))), ("a;b", ("a", (("b", ""),))),
            ("a;B;c=d", ("a", (("b", ""), ("c", "d")))), ("a;;b=c", ("a", (("b", "c"),))), ("a;", ("a", ())),
            ("a; ;\t;b=c;", ("a", (("b", "c"),))), (";b=c", ("", (("b", "c"),))), ('"x;y" ;b=c', ('"x;y"', (("b", "c"),))),
            ('a"x;y"z;b', ('a"x;y"z', (("b", ""),))), ("a=b;c=d", ("a=b", (("c", "d"),))), ("a,b;c", ("a,b", (("c", ""),))),
            ("a;*!#=~`|", ("a", (("*!#", "~`|"),))),
        ):
            self.assertEqual(read_params(element), wanted, element)

    def test_bad(self):
        for element in ("a;b =c", "a;b= c", "a;b\t=c", 'a;b= "c"', "a;b=", "a;=c", "a;=", "a;b=c=d", 'a;"b"=c', 'a;b="c"d',
                        'a;b=d"c"', "a;b c", "a;b=c d", "a;b=c,d", 'a;b="c', 'a;b="c\\"', "a;b=c;/", 'a"b', "a;b/c=d",
                        'a;b="c" "d"', "a;b=@"):
            self.assertIsNone(read_params(element), element)


class WeightTest(unittest.TestCase):
    def test_every_form(self):
        for whole in (0, 1):
            self.assertEqual(read_weight(f"{whole}"), 1000 * whole)
            self.assertEqual(read_weight(f"{whole}."), 1000 * whole)
        for digits in range(1, 4):
            for part in range(10 ** digits):
                text = f"{part:0{digits}d}"
                self.assertEqual(read_weight("0." + text), part * 10 ** (3 - digits))
                self.assertEqual(read_weight("1." + text), 1000 if part == 0 else None)

    def test_nearly(self):
        for text in ("", ".", ".5", "2", "10", "00", "00.5", "01", "0.0000", "1.0000", "0.1234", "-0", "+1", "0,5", " 1", "1 ",
                     "0.5 ", "0. 5", "0.-5", "0.+1", "0.a", "a", "0..5", "0.5.", "1.001", "1.1", "0x1", "0._1", "0.1_1",
                     "2.0", "0.5x"):
            self.assertIsNone(read_weight(text), text)


class RandomTest(unittest.TestCase):
    def test_lists_of_params(self):
        chance = random.Random(44)
        signs = 'ab,;=" \t\\'
        for _ in range(300):
            rows = []
            for _ in range(chance.randrange(1, 4)):
                params = tuple((chance.choice(("b", "x-y")), "".join(chance.choice(signs) for _ in range(chance.randrange(6))))
                               for _ in range(chance.randrange(3)))
                rows.append(("h", params))
            value = " ,\t".join("h" + "".join(f" ; {name.upper()}={write_quoted(text)}" for name, text in params)
                                for _, params in rows)
            self.assertEqual([read_params(element) for element in split_list(value)], rows)


if __name__ == "__main__":
    unittest.main()
