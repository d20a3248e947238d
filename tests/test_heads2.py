"""Head lists of version two ([9.1], [9.2])."""

import unittest

from support import octets

from ownanswer.heads2 import ask_pairs, read_head, read_trailers, reply_pairs, trailer_pairs

LEFT_OUT = ("connection", "keep-alive", "proxy-connection", "transfer-encoding", "upgrade")


def pairs(*rows):
    return [(octets(name), octets(value)) for name, value in rows]


ASK = ((":method", "GET"), (":scheme", "http"), (":path", "/"))


def ask(*rows):
    return read_head("ask", pairs(*ASK, *rows))


def reply(*rows):
    return read_head("reply", pairs((":status", "200"), *rows))


class WritingTest(unittest.TestCase):
    def test_requests(self):
        head = ("ask", "PUT", octets("/a%20b"), (("a", "1"), ("host", "h:80"), ("b", ""), ("a", "2"), ("host", "other")))
        self.assertEqual(ask_pairs(head), pairs((":method", "PUT"), (":scheme", "http"), (":authority", "h:80"), (":path", "/a%20b"),
                                                ("a", "1"), ("b", ""), ("a", "2")))
        self.assertEqual(ask_pairs(("ask", "GET", octets("*"), ())), pairs((":method", "GET"), (":scheme", "http"), (":path", "*")))
        self.assertEqual(ask_pairs(("ask", "GET", octets("/"), (("host", ""),)))[2], (octets(":authority"), ()))

    def test_responses(self):
        self.assertEqual(reply_pairs(("reply", 200, (("a", "1"), ("host", "h"), ("a", "2")))),
                         pairs((":status", "200"), ("a", "1"), ("host", "h"), ("a", "2")))
        self.assertEqual(reply_pairs(("reply", 599, ())), pairs((":status", "599")))
        self.assertEqual(reply_pairs(("reply", 7, ())), pairs((":status", "007")))

    def test_trailers(self):
        self.assertEqual(trailer_pairs((("a", "1"), ("host", "h"), ("b", "2"))), pairs(("a", "1"), ("b", "2")))
        self.assertEqual(trailer_pairs(()), [])

    def test_names_that_are_left_out(self):
        for name in LEFT_OUT:
            fields = (("a", "1"), (name, "x"), ("b", "2"), (name, ""))
            rest = pairs(("a", "1"), ("b", "2"))
            self.assertEqual(ask_pairs(("ask", "GET", octets("/"), fields))[3:], rest)
            self.assertEqual(reply_pairs(("reply", 200, fields))[1:], rest)
            self.assertEqual(trailer_pairs(fields), rest)

    def test_te(self):
        for value, stays in (("trailers", True), ("", False), ("trailers, x", False), ("Trailers", False), ("gzip", False)):
            fields = (("te", value), ("tea", value))
            rest = pairs(*fields) if stays else pairs(("tea", value))
            self.assertEqual(ask_pairs(("ask", "GET", octets("/"), fields))[3:], rest)
            self.assertEqual(reply_pairs(("reply", 200, fields))[1:], rest)
            self.assertEqual(trailer_pairs(fields), rest)

    def test_fields_that_are_not_allowed_go_out_as_they_are(self):
        fields = (("Up", "v"), ("a b", " v "), ("", ""), ("x" * 41, "y" * 1001))
        self.assertEqual(ask_pairs(("ask", "GET", octets("/"), fields))[3:], pairs(*fields))
        self.assertEqual(reply_pairs(("reply", 200, fields))[1:], pairs(*fields))
        self.assertEqual(trailer_pairs(fields), pairs(*fields))

    def test_what_is_written_is_read(self):
        fields = (("host", "h"), ("a", "b c"), ("te", "trailers"), ("a", ""))
        head = ("ask", "PROPFIND", octets("/%41?x"), fields)
        self.assertEqual(read_head("ask", ask_pairs(head)), head)
        head = ("reply", 404, fields)
        self.assertEqual(read_head("reply", reply_pairs(head)), head)
        self.assertEqual(read_trailers(trailer_pairs(fields)), fields[1:])


class FirstPairsTest(unittest.TestCase):
    def test_requests(self):
        self.assertEqual(ask(), ("ask", "GET", octets("/"), ()))
        rows = [(":path", "/"), (":authority", ""), (":method", "GET"), (":scheme", "x")]
        self.assertEqual(read_head("ask", pairs(*rows)), ("ask", "GET", octets("/"), ()))
        for at in (0, 2, 3):
            self.assertIsNone(read_head("ask", pairs(*rows[:at], *rows[at + 1:])), rows[at])
        for row in rows:
            self.assertIsNone(read_head("ask", pairs(*rows, row)), row)
        for row in ((":status", "200"), (":other", "x"), (":", ""), (":Path", "/")):
            self.assertIsNone(read_head("ask", pairs(*rows, row)), row)
        self.assertIsNone(read_head("ask", []))

    def test_responses(self):
        self.assertEqual(reply(), ("reply", 200, ()))
        for row in ((":status", "200"), (":method", "GET"), (":path", "/"), (":scheme", "http"), (":authority", "h"), (":other", "")):
            self.assertIsNone(reply(row), row)
        self.assertIsNone(read_head("reply", []))
        self.assertIsNone(read_head("reply", pairs(("a", "b"))))

    def test_they_stand_in_front(self):
        self.assertIsNone(read_head("reply", pairs(("a", "b"), (":status", "200"))))
        self.assertIsNone(read_head("ask", pairs(("a", "b"), *ASK)))
        self.assertIsNone(read_head("ask", pairs(*ASK[:2], ("a", "b"), ASK[2])))
        self.assertIsNone(ask(("a", "b"), (":authority", "h")))

    def test_methods(self):
        for method, right in (("GET", True), ("get", True), ("X" * 20, True), ("X" * 21, False), ("", False), ("A B", False), ("A:", False),
                              ("A%", False), ("!#$&'*+-.^_|~`", True), ("CONNECT", True)):
            found = read_head("ask", pairs((":method", method), *ASK[1:]))
            self.assertEqual(found, ("ask", method, octets("/"), ()) if right else None, method)

    def test_schemes(self):
        # Any text, without the rule of values: neither its ends nor its length count.
        wanted = ("ask", "GET", octets("/"), ())
        for scheme in ("", "http", "https", "any text", ":", "~", "\t", " ", " \t ", "\ta", " x", "x ", "x\t", "x" * 1000, "x" * 1001, " " * 5000):
            self.assertEqual(read_head("ask", pairs((":scheme", scheme), ASK[0], ASK[2])), wanted, scheme)
            self.assertEqual(read_head("ask", pairs(ASK[0], (":scheme", scheme), ASK[2], ("a", "b"))), (*wanted[:3], (("a", "b"),)), scheme)
            self.assertIsNone(read_head("ask", pairs((":scheme", scheme), *ASK)), scheme)

    def test_schemes_that_are_no_text(self):
        texts = (9, *(octet for octet in range(32, 127) if octet != 37))
        for octet in range(256):
            for scheme in ((octet,), (97, octet), (octet, 97), (97,) * 1001 + (octet,)):
                found = read_head("ask", [*pairs(ASK[0]), (octets(":scheme"), scheme), *pairs(ASK[2])])
                self.assertEqual(found is not None, octet in texts, scheme)

    def test_the_rule_of_values_holds_beside_any_scheme(self):
        for value in (" h", "h\t", "h" * 1001):
            rows = (ASK[0], (":scheme", " " + "x" * 1001), ASK[2])
            self.assertIsNotNone(read_head("ask", pairs(*rows)))
            self.assertIsNone(read_head("ask", pairs(*rows, (":authority", value))), value)
            self.assertIsNone(read_head("ask", pairs(*rows, ("a", value))), value)

    def test_paths(self):
        for path, right in (("/", True), ("*", True), ("x", True), ("%", True), ("!~", True), ("", False), ("a b", False), ("\x7f", False), ("\x80", False),
                            ("\t", False), ("x" * 1000, True), ("x" * 1001, False), ("/a ", False)):
            found = read_head("ask", pairs(*ASK[:2], (":path", path)))
            self.assertEqual(found, ("ask", "GET", octets(path), ()) if right else None, path)

    def test_statuses(self):
        for status, wanted in (("100", 100), ("101", 101), ("599", 599), ("204", 204), ("099", None), ("99", None), ("600", None), ("", None),
                               ("2000", None), ("20x", None), ("+20", None), (" 20", None), ("000", None)):
            found = read_head("reply", pairs((":status", status)))
            self.assertEqual(found, None if wanted is None else ("reply", wanted, ()), status)

    def test_authorities(self):
        host = ("host", "other")
        self.assertEqual(ask(host, ("a", "b"), host)[3], (host, ("a", "b"), host))
        for authority, wanted in (("", (("a", "b"), host)), ("h", (("host", "h"), ("a", "b"))), ("any text", (("host", "any text"), ("a", "b")))):
            rows = (*ASK, (":authority", authority), ("a", "b"), host)
            self.assertEqual(read_head("ask", pairs(*rows))[3], wanted)
        for authority in (" h", "h ", "h%", "h" * 1001, "\x00"):
            self.assertIsNone(read_head("ask", pairs(*ASK, (":authority", authority))), authority)
        self.assertEqual(read_head("ask", pairs(*ASK, (":authority", "h" * 1000)))[3], (("host", "h" * 1000),))


class FieldsTest(unittest.TestCase):
    def told(self, *rows):
        """The fields of a request, a response and trailers, if they are alike."""
        found = read_trailers(pairs(*rows))
        for head in (ask(*rows), reply(*rows)):
            self.assertEqual(found, None if head is None else head[-1], rows)
        return found

    def test_order(self):
        rows = (("b", "1"), ("a", "2"), ("b", "3"))
        self.assertEqual(self.told(*rows), rows)
        self.assertEqual(self.told(), ())

    def test_names(self):
        for name, right in (("a", True), ("x" * 40, True), ("x" * 41, False), ("", False), ("A", False), ("aB", False), ("a b", False), ("a:", False),
                            ("a%", False), ("\x80", False), ("!#$&'*+-.^_|~`09", True)):
            self.assertEqual(self.told((name, "v")), ((name, "v"),) if right else None, name)

    def test_names_that_are_not_allowed(self):
        for name in LEFT_OUT:
            self.assertIsNone(self.told((name, "x")), name)
            self.assertIsNone(self.told(("a", "b"), (name, "")), name)
            self.assertEqual(self.told((name + "s", "x")), ((name + "s", "x"),))
        self.assertEqual(self.told(("host", "x"), ("content-length", "x")), (("host", "x"), ("content-length", "x")))

    def test_te(self):
        for value, right in (("trailers", True), ("", False), ("Trailers", False), ("trailers, trailers", False), ("gzip", False)):
            self.assertEqual(self.told(("te", value)), (("te", value),) if right else None, value)

    def test_values(self):
        for value, right in (("", True), ("a b\tc", True), ("x" * 1000, True), ("x" * 1001, False), (" x", False), ("x ", False), ("\tx", False),
                             ("x\t", False), (" ", False), ("x%", False), ("x\n", False), ("\x00", False), ("\x7f", False), ("\xff", False)):
            self.assertEqual(self.told(("a", value)), (("a", value),) if right else None, value)

    def test_trailers_have_no_colon(self):
        for name in (":status", ":path", ":x", ":"):
            self.assertIsNone(read_trailers(pairs((name, "200"))))
            self.assertIsNone(read_trailers(pairs(("a", "b"), (name, "200"))))

    def test_nothing_is_changed(self):
        row = pairs(*ASK, (":authority", "h"), ("host", "x"))
        kept = list(row)
        self.assertIsInstance(read_head("ask", row), tuple)
        self.assertEqual(row, kept)
        self.assertIsInstance(read_trailers([([97], [98])])[0], tuple)


if __name__ == "__main__":
    unittest.main()
