import random
import unittest

from ownanswer.choice import choose, read_choices


class ReadTest(unittest.TestCase):
    def test_elements(self):
        for value, wanted in (
            ("a", [("a", (), 1000)]), ("Text/Plain;q=0.5", [("text/plain", (), 500)]), ("a;Q=0.25", [("a", (), 250)]), ("", []),
            (" , ,", []), ("a,,b;q=0", [("a", (), 1000), ("b", (), 0)]), ("a;b=C;q=1;d=e", [("a", (("b", "C"), ("d", "e")), 1000)]),
            ("a;q=0.1;q=0.9", [("a", (), 900)]), ("a;Q=0.9;x=y;q=0.1", [("a", (("x", "y"),), 100)]), ('a;q="0.5"', [("a", (), 500)]),
            ('a;b="c,d;e"', [("a", (("b", "c,d;e"),), 1000)]), ('A;B="C\\"D" ; q=0.001', [("a", (("b", 'C"D'),), 1)]),
            ("a ; q=1. , *;q=0.", [("a", (), 1000), ("*", (), 0)]), ("*/*;q=1.000", [("*/*", (), 1000)]), (";q=0.5", [("", (), 500)]),
            ("a;;q=0.5;", [("a", (), 500)]), ("a;b", [("a", (("b", ""),), 1000)]),
        ):
            self.assertEqual(read_choices(value), wanted, value)

    def test_what_cannot_be_read(self):
        for value in ("a;q=2", "a;q=", "a;q", "a;q=x", "a;q=0.1234", "a;q=1.001", "a;q=-1", "a;q=.5", "a;q=00", "a;q=0,5;q=x", "a;q=x;q=1",
                      "a;q=1;q=x", "a, b;q=2", "b;q=2, a", 'a;b="c', 'a, "b', "a;b =c", "a;b= c", "a;(=c", "a;b=c d", "a;q= 1"):
            self.assertIsNone(read_choices(value), value)

    def test_new_lists(self):
        read_choices("a").append("x")
        self.assertEqual(read_choices("a"), [("a", (), 1000)])


def chosen(offers, accept=None, language=None):
    fields = (("host", "h"),)
    if accept is not None:
        fields += (("accept", accept),)
    if language is not None:
        fields += (("accept-language", language),)
    return choose(fields, offers)


PLAIN = ("text/plain", "")
PAGE = ("text/html", "")
DATA = ("data/x", "")


class KindTest(unittest.TestCase):
    def test_no_fields(self):
        self.assertEqual(chosen([]), -1)
        self.assertEqual(chosen(()), -1)
        self.assertEqual(chosen([PLAIN]), 0)
        self.assertEqual(chosen([PAGE, PLAIN]), 0)

    def test_exact_kinds(self):
        for accept, wanted in (
            ("text/html", 1), ("TEXT/HTML", 1), ("text/html;q=0.1", 1), ("text/html, text/plain", 0), ("text/html, text/plain;q=0.9", 1),
            ("text/html;q=0.9, text/plain", 0), ("text/html;q=0", -1), ("data/x;q=0.5, text/html;q=0.501", 1), ("data/y", -1), ("", -1),
            ("text", -1), ("html", -1), (";q=0.5", -1), ("*", -1), ("*/html", -1), ("text/html/x", -1), ("text/htm", -1),
        ):
            self.assertEqual(chosen([PLAIN, PAGE, DATA], accept), wanted, accept)

    def test_the_most_exact_element_counts(self):
        for accept, wanted in (
            ("text/*", 0), ("data/*", 2), ("*/*", 0), ("*/*, text/plain;q=0.5", 1), ("text/*;q=0.2, text/plain;q=0.1, */*;q=0.3", 2),
            ("*/*;q=0.9, text/*;q=0.1", 2), ("*/*;q=0, text/*;q=0.1", 0), ("text/*, text/plain;q=0", 1), ("*/*, text/*;q=0", 2),
            ("*/*;q=0.1, text/html;q=0.2, data/x;q=0.2", 1), ("text/plain;q=0, */*;q=0", -1), ("text/*;q=0, */*", 2),
            # Neither the order nor a greater weight makes an element count more.
            ("text/plain;q=0.1, text/*;q=0.9", 1), ("text/*;q=0.9, text/plain;q=0.1", 1),
        ):
            self.assertEqual(chosen([PLAIN, PAGE, DATA], accept), wanted, accept)

    def test_the_first_of_equal_elements(self):
        for accept, wanted in (("text/plain;q=0, text/plain, text/html;q=0.1", 1), ("text/plain, text/plain;q=0, text/html;q=0.9", 0),
                               ("text/*;q=0.5, text/*;q=0.1, data/x;q=0.3", 0), ("*/*;q=0, */*", -1)):
            self.assertEqual(chosen([PLAIN, PAGE, DATA], accept), wanted, accept)

    def test_elements_with_parameters(self):
        for accept, wanted in (("text/html;level=1", -1), ("text/html;level=1, data/*", 2), ("*/*;x=y", -1), ("text/*;x=y;q=1, */*;q=0.1", 0),
                               ("text/plain;x=y;q=0, text/plain;q=0.5", 0), ("text/html;x", -1)):
            self.assertEqual(chosen([PLAIN, PAGE, DATA], accept), wanted, accept)

    def test_what_cannot_be_read_is_not_there(self):
        for accept in ("text/html;q=2", "text/html;q=x, data/x", 'text/html;a="', '"', "text/html;a b"):
            self.assertEqual(chosen([PLAIN, PAGE], accept), 0, accept)


class LanguageTest(unittest.TestCase):
    def test_languages(self):
        offers = [("a/b", "en"), ("a/b", "en-us"), ("a/b", "de"), ("a/b", "en-us-x")]
        for language, wanted in (
            ("en", 0), ("en-us", 1), ("EN-US", 1), ("de", 2), ("en-us-x", 3), ("e", -1), ("en-u", -1), ("en-us-", -1), ("fr", -1), ("", -1),
            ("*", 0), ("de;q=0.5, *;q=0.1", 2), ("en;q=0.1, *", 2), ("en;q=0.1, en-us", 1), ("en, en-us;q=0.1, de;q=0.9", 0),
            ("en;q=0, *;q=0.5", 2), ("en;q=0.2, en-us;q=0.1, en-us-x;q=0.3", 3), ("en;q=0, en-us;q=0.5, de;q=0.4", 1), ("*;q=0", -1),
            ("en-us;q=0.5, *;q=0.1, en;q=0", 1), ("de, de;q=0", 2), ("de;q=0, de", -1), (";q=0.5", -1), (";q=0.5, de;q=0.1", 2), ("-", -1), ("en;x=y", -1), ("en;x=y, *;q=0.1", 0),
        ):
            self.assertEqual(chosen(offers, None, language), wanted, language)

    def test_without_a_language(self):
        for language in ("en", "*;q=0", "", "en;q=0.1"):
            self.assertEqual(chosen([("a/b", "")], None, language), 0, language)
            self.assertEqual(chosen([("a/b", "de"), ("a/b", "")], None, language), 1, language)
        self.assertEqual(chosen([("a/b", "de"), ("a/b", "")], None, "de"), 0)
        self.assertEqual(chosen([("a/b", "de"), ("a/b", "")], None, "de;q=0.999"), 1)

    def test_what_cannot_be_read_is_not_there(self):
        for language in ("en;q=2", 'en;a="', "en;q="):
            self.assertEqual(chosen([("a/b", "de"), ("a/b", "en")], None, language), 0, language)


class ProductTest(unittest.TestCase):
    OFFERS = [("text/plain", "en"), ("text/html", "de"), ("text/html", "en")]

    def test_products(self):
        for accept, language, wanted in (
            ("text/plain;q=0.5, text/html", "en;q=0.5, de", 1), ("text/plain;q=0.5, text/html", "en, de;q=0.4", 2),
            ("text/plain, text/html;q=0.5", "en;q=0.5, de", 0), ("text/plain, text/html;q=0.5", "en;q=0.499, de", 1),
            ("text/plain", "de", -1), ("text/html", "fr", -1), ("text/html", None, 1), (None, "en", 0), ("data/x", "en", -1),
            ("text/html;q=0.001", "en;q=0.001", 2),
        ):
            self.assertEqual(chosen(self.OFFERS, accept, language), wanted, (accept, language))

    def test_a_field_that_comes_twice(self):
        fields = (("accept", "text/plain;q=0.1"), ("accept-language", "de;q=0.1"), ("accept", "text/html"), ("accept-language", "en"))
        self.assertEqual(choose(fields, self.OFFERS), 2)
        self.assertEqual(choose((("accept", 'text/html;a="b'), ("accept", 'c"')), self.OFFERS), -1)

    def test_nothing_handed_in_is_changed(self):
        offers = list(self.OFFERS)
        chosen(offers, "text/html", "en")
        self.assertEqual(offers, self.OFFERS)

    def test_by_a_second_way(self):
        chance = random.Random(7)
        for _ in range(3000):
            kinds = self.random_choices(chance, ("a/b", "a/c", "a/*", "*/*", "d/e"))
            languages = self.random_choices(chance, ("en", "en-a", "en-a-b", "*", "de"))
            offers = [(chance.choice(("a/b", "a/c", "d/e")), chance.choice(("", "en", "en-a", "en-a-b", "en-b", "de"))) for _ in range(4)]
            products = [self.kind(kinds, kind) * self.language(languages, language) for kind, language in offers]
            wanted = products.index(max(products)) if max(products) > 0 else -1
            shown = [None if row is None else ", ".join(f"{head};q=0.{weight:03d}" for head, weight in row) for row in (kinds, languages)]
            self.assertEqual(chosen(offers, *shown), wanted, (shown, offers))

    def random_choices(self, chance, heads):
        if chance.random() < 0.2:
            return None
        return [(head, chance.choice((0, 1, 300, 500, 999))) for head in chance.sample(heads, chance.randrange(len(heads)))]

    def kind(self, choices, kind):
        if choices is None:
            return 1000
        found = dict(choices)
        return found.get(kind, found.get(kind.split("/")[0] + "/*", found.get("*/*", 0)))

    def language(self, choices, language):
        if choices is None or language == "":
            return 1000
        fitting = [(len(head), weight) for head, weight in choices if head == language or language.startswith(head + "-")]
        return max(fitting)[1] if fitting else dict(choices).get("*", 0)


if __name__ == "__main__":
    unittest.main()
