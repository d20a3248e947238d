import itertools
import random
import unittest
import urllib.parse

from ownanswer.targets import clean_path, decode, encode, read_host, read_query, read_target, write_query
from support import octets, string

PLAIN = "ABCDEFGHIJKLMNOPQRSTUVWXYZabcdefghijklmnopqrstuvwxyz0123456789-._~"


class CodesTest(unittest.TestCase):
    def test_decode(self):
        for text, wanted in (("", ""), ("abc", "abc"), ("%41", "A"), ("%4a%4A", "JJ"), ("%00%fF%Ff", "\x00\xff\xff"),
                             ("%25", "%"), ("%2541", "%41"), ("a%20b", "a b"), ("\x80 ", "\x80 ")):
            self.assertEqual(decode(octets(text)), octets(wanted), text)

    def test_broken_codes(self):
        for text in ("%", "a%", "%4", "%4%41", "%g0", "%0g", "% 41", "%%41", "%41%", "%4", "%-1", "%+1"):
            self.assertIsNone(decode(octets(text)), text)

    def test_every_code(self):
        for code in range(256):
            for digits in (f"{code:02x}", f"{code:02X}"):
                self.assertEqual(decode(octets("%" + digits)), (code,))

    def test_encode(self):
        for code in range(256):
            wanted = chr(code) if chr(code) in PLAIN else f"%{code:02X}"
            self.assertEqual(string(encode((code,), ())), wanted)
            self.assertEqual(encode((code,), (code,)), (code,))
            self.assertEqual(decode(encode((code,), ())), (code,))
        self.assertEqual(string(encode(octets("a/b c%\n"), octets("/ "))), "a/b c%25%0A")
        self.assertEqual(encode((), ()), ())

    def test_decode_of_encode(self):
        row = tuple(range(256))
        self.assertEqual(decode(encode(row, ())), row)


class PathsTest(unittest.TestCase):
    def cleans(self, text, wanted):
        self.assertEqual(string(clean_path(octets(text))), wanted, text)

    def test_example(self):
        self.cleans("/a/./b/../c", "/a/c")

    def test_segments(self):
        for text, wanted in (
            ("/", "/"), ("/a", "/a"), ("/a/", "/a/"), ("/.", "/"), ("/..", "/"), ("/./", "/"), ("/../", "/"), ("/a/.", "/a/"),
            ("/a/..", "/"), ("/a/b/..", "/a/"), ("/a/b/.", "/a/b/"), ("/a/../..", "/"), ("/../../a", "/a"), ("/a/../b", "/b"),
            ("/a/b/../../c", "/c"), ("/a/b/../../../c", "/c"), ("/...", "/..."), ("/.a/..b/c..", "/.a/..b/c.."),
            ("//", "//"), ("/a//b", "/a//b"), ("/a//../b", "/a/b"), ("//..", "/"), ("//a", "//a"), ("/a/b//", "/a/b//"),
            ("/a/./", "/a/"), ("/a/../", "/"), ("/./a", "/a"), ("/././.", "/"),
        ):
            self.cleans(text, wanted)

    def test_empty_segments_ahead_of_the_end(self):
        self.cleans("/a//.", "/a//")
        self.cleans("/a//b/..", "/a//")
        self.cleans("/a//..", "/a/")

    def test_codes(self):
        for text, wanted in (
            ("/%41%7a%30%2D%2e%5f%7E", "/Az0-._~"), ("/%2f%3a", "/%2F%3A"), ("/%2f%2F", "/%2F%2F"), ("/%2e", "/"),
            ("/a/%2e%2E/b", "/b"), ("/a/.%2e", "/"), ("/a/%2E", "/a/"), ("/a/%2e%2e%2e", "/a/..."), ("/a%2f..%2fb", "/a%2F..%2Fb"),
            ("/%2541", "/%2541"), ("/%25%34%31", "/%2541"), ("/a!$&'()*+,;=:@", "/a!$&'()*+,;=:@"), ("/%00%ff", "/%00%FF"),
        ):
            self.cleans(text, wanted)

    def test_every_code(self):
        for code in range(256):
            wanted = chr(code) if chr(code) in PLAIN else f"%{code:02X}"
            self.cleans(f"/x%{code:02x}", "/x" + wanted)

    def test_broken_codes(self):
        for text in ("/%", "/%4", "/a%zz", "/%2/e", "/%/", "/../%"):
            self.assertIsNone(clean_path(octets(text)), text)

    def test_of_its_own_answer(self):
        parts = ("/", ".", "a", "%2e", "%2F", "%41", "%25", "/..", "/.")
        for count in range(5):
            for row in itertools.product(parts, repeat=count):
                once = clean_path(octets("/" + "".join(row)))
                self.assertEqual(clean_path(once), once, row)
                self.assertEqual(once[0], 47)

    def test_against_a_second_way(self):
        chance = random.Random(48)
        for _ in range(2000):
            row = "/" + "/".join(chance.choice(("", ".", "..", "a", "b", "...")) for _ in range(chance.randrange(1, 7)))
            self.cleans(row, self.second_way(row))

    def second_way(self, path):
        """Takes the first piece off, again and again, as the published rules of addresses do."""
        found = ""
        while path:
            if path.startswith("/./") or path == "/.":
                path = "/" + path[3:]
            elif path.startswith("/../") or path == "/..":
                path = "/" + path[4:]
                found = found[:found.rindex("/")] if found else ""
            else:
                end = path.find("/", 1)
                end = len(path) if end == -1 else end
                found, path = found + path[:end], path[end:]
        return found


class TargetsTest(unittest.TestCase):
    def reads(self, text, wanted, method="GET"):
        self.assertEqual(read_target(method, octets(text)), wanted, text)

    def test_origin(self):
        self.reads("/", ("origin", (47,), None))
        self.reads("/a/../b", ("origin", octets("/a/../b"), None))
        self.reads("/a?", ("origin", octets("/a"), ()))
        self.reads("/a?b?c=/d", ("origin", octets("/a"), octets("b?c=/d")))
        self.reads("/%2f?%3D", ("origin", octets("/%2f"), octets("%3D")))
        self.reads("//h/a", ("origin", octets("//h/a"), None))
        for method in ("OPTIONS", "PUT", "X"):
            self.reads("/a", ("origin", octets("/a"), None), method)

    def test_not_origin(self):
        for text in ("/a#b", "/a?b#c", "/#", "/%", "/%4", "/%4?1", "/a?%4", "/a?%zz", "/%4g"):
            self.reads(text, None)
        for code in list(range(33)) + list(range(127, 256)) + [35]:
            self.assertIsNone(read_target("GET", (47, code)), code)
            self.assertIsNone(read_target("GET", (47, 63, code)), code)
        for code in range(33, 127):
            if code not in (35, 37, 63):
                self.assertEqual(read_target("GET", (47, code)), ("origin", (47, code), None))
                self.assertEqual(read_target("GET", (47, 63, code)), ("origin", (47,), (code,)))

    def test_absolute(self):
        self.reads("http://h", ("absolute", "h", 80, (47,), None))
        self.reads("HTTP://H.b-9/a?b", ("absolute", "h.b-9", 80, octets("/a"), octets("b")))
        self.reads("hTTp://h:8080", ("absolute", "h", 8080, (47,), None))
        self.reads("http://h?x", ("absolute", "h", 80, (47,), octets("x")))
        self.reads("http://h:1?/x", ("absolute", "h", 1, (47,), octets("/x")))
        self.reads("http://h:65535//a", ("absolute", "h", 65535, octets("//a"), None))
        self.reads("http://h/?", ("absolute", "h", 80, (47,), ()))
        self.reads("http://h", ("absolute", "h", 80, (47,), None), "OPTIONS")

    def test_not_absolute(self):
        for text in ("http://", "http:///a", "http://?a", "http://:80", "http://h:", "http://h:/", "http://h:0", "http://h:65536",
                     "http://h:000080", "http://h:8a", "http://h:80:80", "http://u@h", "http://h_", "http://[::1]", "http://h#a",
                     "http://h/a#b", "http://h/%", "http://h?%1", "https://h", "http:/h", "http//h", "http:", "httpx://h",
                     "http://h%41", "ftp://h"):
            self.reads(text, None)

    def test_authority(self):
        self.reads("h:443", ("authority", "h", 443), "CONNECT")
        self.reads("A-b.C:00080", ("authority", "a-b.c", 80), "CONNECT")
        for text in ("h", "h:", ":80", "h:0", "h:65536", "h:000080", "/", "*", "http://h:80", "h:80/", "h:80?a", "h:80 ", "h:+80"):
            self.reads(text, None, "CONNECT")
        self.reads("h:443", None, "GET")
        self.reads("h:443", None, "OPTIONS")

    def test_star(self):
        self.reads("*", ("star",), "OPTIONS")
        for method in ("GET", "options", "CONNECT", "PUT"):
            self.reads("*", None, method)
        self.reads("**", None, "OPTIONS")
        self.reads("*?", None, "OPTIONS")

    def test_none_of_the_forms(self):
        for text in ("a", "a/b", "?a", "#", "%2f", "", ".", ":80"):
            self.reads(text, None)
            self.reads(text, None, "OPTIONS")


class HostsTest(unittest.TestCase):
    def test_good(self):
        for value, wanted in (("h", ("h", 80)), ("A.B-c9", ("a.b-c9", 80)), ("h:1", ("h", 1)), ("h:65535", ("h", 65535)),
                              ("h:00001", ("h", 1)), ("-", ("-", 80)), (".", (".", 80)), ("9:9", ("9", 9))):
            self.assertEqual(read_host(value), wanted, value)

    def test_bad(self):
        for value in ("", ":", ":80", "h:", "h:0", "h:00000", "h:65536", "h:99999", "h:000001", "h:100000", "h:x", "h: 80", "h :80",
                      " h", "h ", "h:80:", "h:-1", "h:+1", "a_b", "[::1]", "a/b", "a,b", "a@b", "h:8\t", "h:8.0"):
            self.assertIsNone(read_host(value), value)


class QueriesTest(unittest.TestCase):
    def reads(self, text, *pairs):
        wanted = [(octets(name), octets(value)) for name, value in pairs]
        self.assertEqual(read_query(octets(text)), wanted, text)

    def test_read(self):
        self.reads("")
        self.reads("a=b", ("a", "b"))
        self.reads("a=b&c=d&a=e", ("a", "b"), ("c", "d"), ("a", "e"))
        self.reads("a", ("a", ""))
        self.reads("a=", ("a", ""))
        self.reads("=b", ("", "b"))
        self.reads("=", ("", ""))
        self.reads("==", ("", "="))
        self.reads("a=b=c", ("a", "b=c"))
        self.reads("&&a=b&&=&", ("a", "b"), ("", ""))
        self.reads("a+b=+c+", ("a b", " c "))
        self.reads("%2B%20+=%3d%26%25", ("+  ", "=&%"))
        self.reads("%00=%fF", ("\x00", "\xff"))
        self.reads("a?b/c=d:@", ("a?b/c", "d:@"))

    def test_broken_codes(self):
        for text in ("%", "a=%", "%4", "a=%4&1", "%4=1", "%zz", "a=b&c=%g1", "%+1", "%4+"):
            self.assertIsNone(read_query(octets(text)), text)

    def test_write(self):
        for pairs, wanted in (
            ([], ""), ([("a", "b")], "a=b"), ([("a b", "c&=+%/")], "a+b=c%26%3D%2B%25%2F"), ([("", "")], "="),
            ([("", ""), ("", "")], "=&="), ([("", "b"), ("-._~", "\xff\n")], "=b&-._~=%FF%0A"),
        ):
            row = [(octets(name), octets(value)) for name, value in pairs]
            self.assertEqual(string(write_query(row)), wanted)

    def test_what_is_written_is_read(self):
        chance = random.Random(410)
        signs = "a& =+%?#\x00\xff~"
        for _ in range(500):
            pairs = [tuple(octets("".join(chance.choice(signs) for _ in range(chance.randrange(4)))) for _ in range(2))
                     for _ in range(chance.randrange(5))]
            copy = list(pairs)
            written = write_query(pairs)
            self.assertEqual(read_query(written), pairs)
            self.assertEqual(pairs, copy)
            self.assertEqual(read_query(tuple(written)), pairs)

    def test_against_a_second_way(self):
        for text in ("a=b&c=d", "a+b=c%20d", "x=%41&y=&=z"):
            wanted = [(octets(name), octets(value)) for name, value in urllib.parse.parse_qsl(text, True, encoding="latin-1")]
            self.assertEqual(read_query(octets(text)), wanted)


if __name__ == "__main__":
    unittest.main()
