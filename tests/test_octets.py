import string as signs
import unittest

from ownanswer.octets import (
    hex_digit, is_token, is_token_sign, is_value_sign, joined, lower, to_octets, to_text, values, without,
)

TOKEN_SIGNS = signs.ascii_letters + signs.digits + "!#$&'*+-.^_`|~"
TEXT_CODES = [9] + [code for code in range(32, 127) if code != 37]


class TextsTest(unittest.TestCase):
    def test_each_octet(self):
        for code in range(256):
            with self.subTest(code=code):
                if code in TEXT_CODES:
                    self.assertEqual(to_text((code,)), chr(code))
                    self.assertEqual(to_octets(chr(code)), (code,))
                else:
                    self.assertIsNone(to_text((code,)))

    def test_edges_by_name(self):
        self.assertEqual(to_text((9,)), "\t")
        self.assertIsNone(to_text((31,)))
        self.assertEqual(to_text((32,)), " ")
        self.assertIsNone(to_text((37,)))
        self.assertEqual(to_text((36, 38)), "$&")
        self.assertEqual(to_text((126,)), "~")
        self.assertIsNone(to_text((127,)))

    def test_rows(self):
        whole = "".join(chr(code) for code in TEXT_CODES)
        self.assertEqual(to_octets(whole), tuple(TEXT_CODES))
        self.assertEqual(to_text(tuple(TEXT_CODES)), whole)
        self.assertEqual(to_text(list(TEXT_CODES)), whole)
        self.assertEqual(to_octets(""), ())
        self.assertEqual(to_text(()), "")
        self.assertIsNone(to_text((97, 98, 10)))
        self.assertIsNone(to_text((200, 98)))


class SignsTest(unittest.TestCase):
    def test_token_signs(self):
        for code in range(256):
            with self.subTest(code=code):
                self.assertIs(is_token_sign(code), chr(code) in TOKEN_SIGNS)

    def test_value_signs(self):
        for code in range(256):
            with self.subTest(code=code):
                self.assertIs(is_value_sign(code), code in TEXT_CODES)

    def test_hexadecimal_digits(self):
        for code in range(256):
            with self.subTest(code=code):
                wanted = int(chr(code), 16) if chr(code) in signs.hexdigits else -1
                self.assertEqual(hex_digit(code), wanted)

    def test_tokens(self):
        self.assertIs(is_token(TOKEN_SIGNS), True)
        self.assertIs(is_token(""), False)
        for text in ("a b", " a", "a\t", "a,b", "a/b", '"a"', "a:", "a;", "(", "a=b", "@"):
            self.assertIs(is_token(text), False, text)
        for sign in TOKEN_SIGNS:
            self.assertIs(is_token(sign), True, sign)

    def test_lower(self):
        self.assertEqual(lower(signs.ascii_uppercase), signs.ascii_lowercase)
        whole = "".join(chr(code) for code in TEXT_CODES)
        for before, after in zip(whole, lower(whole)):
            self.assertEqual(after, before.lower())


class FieldsTest(unittest.TestCase):
    FIELDS = (("a", "1"), ("b", "2"), ("a", ""), ("c", "3"), ("a", "1"))

    def test_values(self):
        self.assertEqual(values(self.FIELDS, "a"), ["1", "", "1"])
        self.assertEqual(values(self.FIELDS, "b"), ["2"])
        self.assertEqual(values(self.FIELDS, "d"), [])
        self.assertEqual(values((), "a"), [])
        self.assertEqual(values(self.FIELDS, "A"), ["1", "", "1"])

    def test_values_gives_a_new_list(self):
        first = values(self.FIELDS, "a")
        first.append("x")
        self.assertEqual(values(self.FIELDS, "a"), ["1", "", "1"])

    def test_without(self):
        names = ["a", "c"]
        self.assertEqual(without(self.FIELDS, names), (("b", "2"),))
        self.assertEqual(names, ["a", "c"])
        self.assertEqual(without(self.FIELDS, []), self.FIELDS)
        self.assertEqual(without(self.FIELDS, ["b"]), (("a", "1"), ("a", ""), ("c", "3"), ("a", "1")))
        self.assertEqual(without((), ["a"]), ())


class JoinedTest(unittest.TestCase):
    HEAD = ("head", ("reply", 200, ()))

    def test_neighbours_are_one(self):
        events = [self.HEAD, ("body", (1,)), ("body", (2, 3)), ("body", (4,)), ("end", ())]
        self.assertEqual(joined(events), [self.HEAD, ("body", (1, 2, 3, 4)), ("end", ())])

    def test_what_is_apart_stays_apart(self):
        events = [("body", (1,)), ("end", ()), self.HEAD, ("body", (2,))]
        self.assertEqual(joined(events), events)
        self.assertEqual(joined([]), [])
        self.assertEqual(joined([("body", (1,)), ("body", (2,))]), [("body", (1, 2))])

    def test_nothing_handed_in_is_changed(self):
        events = [("body", (1,)), ("body", (2,)), ("last",)]
        copy = list(events)
        found = joined(events)
        self.assertEqual(events, copy)
        found.append("x")
        self.assertEqual(events, copy)
        apart = [("last",)]
        self.assertIsNot(joined(apart), apart)


if __name__ == "__main__":
    unittest.main()
