import unittest

from support import octets

from ownanswer.dates import write_date
from ownanswer.pages import find_variant, is_page, page_fields

LAST_TIME = 253402300799
PLAIN = ("text/plain", "", (104, 105), "x", 0)
GERMAN = ("text/plain", "de", (), "y", 86400)


def page(path="/a", keep=60, variants=(PLAIN,)):
    return (octets(path), keep, variants)


def varied(kind="text/plain", language="en", body=(1, 2), tag="x", modified=5):
    return page(variants=((kind, language, body, tag, modified),))


class PageTest(unittest.TestCase):
    def all_are(self, wanted, rows):
        for row in rows:
            self.assertIs(is_page(row), wanted, row)

    def test_pages(self):
        self.all_are(True, (page(), page(variants=(PLAIN, GERMAN)), page(variants=(GERMAN, PLAIN)), varied()))

    def test_paths(self):
        self.all_are(True, [page(path) for path in ("/", "/a/b", "/a/", "//", "/a//b", "/%2F", "/a%20b", "/A", "/.a", "/...", "/~", "/a;b=c")])
        self.all_are(False, [page(path) for path in ("", "a", "a/b", "*", "/.", "/..", "/./a", "/a/../b", "/a/.", "/%2f", "/%41", "/%7E", "/%",
                                                     "/%2", "/%2G", "/a%", "http://h/a", " /a")])
        self.assertIs(is_page(([47], 60, (PLAIN,))), False)
        self.assertIs(is_page(("/", 60, (PLAIN,))), False)
        self.assertIs(is_page(((47, 256), 60, (PLAIN,))), False)

    def test_keep(self):
        self.all_are(True, [page(keep=keep) for keep in (0, 1, 60, 10 ** 12, -1, -2)])
        self.all_are(False, [page(keep=keep) for keep in (-3, -4, -10 ** 12, None, "60", True, False)])

    def test_variants(self):
        self.all_are(False, (page(variants=()), page(variants=[PLAIN]), page(variants=(PLAIN, PLAIN)), page(variants=(PLAIN[:4],)),
                             page(variants=(PLAIN + (1,),)), page(variants=(list(PLAIN),)), page(variants=None), page(variants=((),))))
        # Equal offers make the page wrong, whatever else differs; equal tags do not.
        self.assertIs(is_page(page(variants=(GERMAN, PLAIN, ("text/plain", "", (), "z", 9)))), False)
        self.assertIs(is_page(page(variants=(PLAIN, ("text/html", "") + PLAIN[2:], ("text/plain", "en") + PLAIN[2:]))), True)
        # Each of several variants counts.
        self.assertIs(is_page(page(variants=(PLAIN, GERMAN[:3] + ('"', 0)))), False)

    def test_kinds(self):
        self.all_are(True, [varied(kind=kind) for kind in ("a/b", "text/plain", "x-y/z+w.v", "1/2", "*/*")])
        self.all_are(False, [varied(kind=kind) for kind in ("", "/", "a", "a/", "/b", "a/b/c", "A/b", "a/B", "a/b;c=d", " a/b", "a/b ", "a /b",
                                                            "a,b/c", "a//b", None, (97, 47, 98))])

    def test_languages(self):
        self.all_are(True, [varied(language=language) for language in ("", "en", "en-us", "a-b-c", "x1", "*")])
        self.all_are(False, [varied(language=language) for language in ("-", "en-", "-en", "en--us", "EN", "en-US", "en us", "en,de", "en_US",
                                                                        " en", "en;q=1", None)])

    def test_bodies(self):
        self.all_are(True, [varied(body=body) for body in ((), (0,), (255,), (1,) * 20001)])
        self.all_are(False, [varied(body=body) for body in ((256,), (-1,), [1], "hi", None, (1, None), (1, "a"), (True,), b"a")])

    def test_tags(self):
        self.all_are(True, [varied(tag=tag) for tag in ("", "x", "v1", "a,b", "W/", "~!")])
        self.all_are(False, [varied(tag=tag) for tag in ('"', '"x"', "a b", "\\", "\t", "a\\b", None, ("x",), (False, "x"), 5)])

    def test_times(self):
        self.all_are(True, [varied(modified=time) for time in (0, 1, LAST_TIME)])
        self.all_are(False, [varied(modified=time) for time in (-1, LAST_TIME + 1, None, "0", True)])

    def test_other_records(self):
        self.all_are(False, (None, (), page()[:2], page() + (1,), list(page()), "page", 5))


class FindTest(unittest.TestCase):
    def test_find(self):
        variants = (PLAIN, GERMAN, ("text/html", "de", (), "", 0))
        for offer, wanted in ((("text/plain", ""), 0), (("text/plain", "de"), 1), (("text/html", "de"), 2), (("text/html", ""), -1),
                              (("text/plain", "en"), -1), (("text", ""), -1)):
            self.assertEqual(find_variant(variants, offer), wanted, offer)
        self.assertEqual(find_variant((), ("text/plain", "")), -1)


class FieldsTest(unittest.TestCase):
    def test_one_variant(self):
        self.assertEqual(page_fields(page(), PLAIN), (
            ("etag", '"x"'), ("last-modified", "Thu, 01 Jan 1970 00:00:00 GMT"), ("cache-control", "max-age=60"), ("accept-ranges", "bytes"),
            ("content-type", "text/plain")))

    def test_several_variants(self):
        for variants in ((PLAIN, GERMAN), (GERMAN, PLAIN)):
            self.assertEqual(page_fields(page(variants=variants), GERMAN), (
                ("etag", '"y"'), ("last-modified", write_date(86400)), ("cache-control", "max-age=60"), ("vary", "accept, accept-language"),
                ("accept-ranges", "bytes"), ("content-type", "text/plain"), ("content-language", "de")))
            self.assertEqual(page_fields(page(variants=variants), PLAIN)[3:], (
                ("vary", "accept, accept-language"), ("accept-ranges", "bytes"), ("content-type", "text/plain")))

    def test_keeps(self):
        for keep, wanted in ((0, "max-age=0"), (1, "max-age=1"), (10 ** 12, "max-age=1000000000000"), (-1, "no-store"), (-2, "no-cache")):
            self.assertEqual(page_fields(page(keep=keep), PLAIN)[2], ("cache-control", wanted))


if __name__ == "__main__":
    unittest.main()
