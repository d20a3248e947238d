import random
import unittest

from ownanswer.heads import FieldsReader
from support import fed, lines, octets

PLACES = (("ask", 1, 0), ("ask", 0, 0), ("reply", 1, 200), ("reply", 0, 200), ("trailer", 1, 0))


class Heads(unittest.TestCase):
    def reads(self, text, fields, place="reply", minor=1, status=200):
        """The fields come behind the last octet, and not before."""
        answer = fed(FieldsReader(place, minor, status), octets(text))
        self.assertEqual(answer, (len(text), ("fields", fields)), text[:60])

    def faults(self, good, bad, word="field", place="reply", minor=1, status=200):
        """What is good goes on; with the first octet of bad comes the fault."""
        self.assertEqual(fed(FieldsReader(place, minor, status), octets(good)), (len(good), None), good[:60])
        answer = fed(FieldsReader(place, minor, status), octets(good + bad))
        self.assertEqual(answer, (len(good) + 1, ("fault", word)), good[-40:] + bad[:40])


class FieldLinesTest(Heads):
    def test_in_each_place(self):
        for place, minor, status in PLACES:
            host = "Host: h\r\n" if place == "ask" else ""
            told = (("host", "h"),) if place == "ask" else ()
            self.reads(host + "\r\n", told, place, minor, status)
            self.reads(host + "A: b\r\nC:d\r\na:\r\n\r\n", told + (("a", "b"), ("c", "d"), ("a", "")), place, minor,
                       status)

    def test_names(self):
        self.reads("n" * 40 + ":\r\n\r\n", (("n" * 40, ""),))
        self.faults("n" * 40, "n:")
        self.faults("", ":")
        self.faults("a: b\r\n", ":")
        self.reads("X-!#$&'*+.^_`|~9: v\r\n\r\n", (("x-!#$&'*+.^_`|~9", "v"),))
        self.faults("a", " : b")
        self.faults("a", "\t: b")
        self.faults("", " a: b")
        self.faults("", "\ta: b")
        self.faults("a: b\r\n", " c: d")
        self.faults("a", "\r")
        self.faults("a", "%")
        self.faults("a", "\x80")
        self.faults("content-length", " : 5")

    def test_each_octet_of_a_name(self):
        signs = "!#$&'*+-.^_`|~0123456789abcdefghijklmnopqrstuvwxyzABCDEFGHIJKLMNOPQRSTUVWXYZ"
        for code in range(256):
            wanted = None if chr(code) in signs else ("fault", "field")
            behind = None if chr(code) in signs + ":" else ("fault", "field")
            first = None if chr(code) in signs + "\r" else ("fault", "field")
            self.assertEqual(FieldsReader("reply", 1, 200).take(code), first, code)
            self.assertEqual(fed(FieldsReader("reply", 1, 200), (97, code))[1], behind, code)
            if chr(code) not in "\r:":
                self.assertEqual(first, wanted)

    def test_values(self):
        self.reads("a:" + "v" * 1000 + "\r\n\r\n", (("a", "v" * 1000),))
        self.reads("a:" + " " * 500 + "v" + "\t" * 499 + "\r\n\r\n", (("a", "v"),))
        self.faults("a:" + "v" * 1000, "v")
        self.faults("a:" + " " * 1000, " ")
        self.reads("a: \t b \t c\t \r\n\r\n", (("a", "b \t c"),))
        self.reads("a: \t \r\n\r\n", (("a", ""),))
        self.faults("a: b\r", "c")
        self.faults("a: b\r", "\r")
        self.faults("a: b", "\n")
        self.faults("a: b\r\n\r", "\r")
        self.faults("\r", "a")
        self.faults("", "\n")

    def test_each_octet_of_a_value(self):
        for code in range(256):
            good = code in (9, 13) or (32 <= code <= 126 and code != 37)
            answer = fed(FieldsReader("reply", 1, 200), octets("a:b") + (code,))[1]
            self.assertEqual(answer, None if good else ("fault", "field"), code)


class LengthTest(Heads):
    def test_good(self):
        for value, told in ((" 0", "0"), ("5", "5"), ("\t 99999 \t", "99999"), ("00007", "00007")):
            self.reads(f"Content-Length:{value}\r\n\r\n", (("content-length", told),))
        blanks = " \t" * 700
        self.reads(f"CONTENT-LENGTH:{blanks}12{blanks}\r\n\r\n", (("content-length", "12"),))
        self.reads("content-length: 5\r\nhost: h\r\n\r\n", (("content-length", "5"), ("host", "h")), "ask")
        self.reads("content-length: 5\r\n\r\n", (("content-length", "5"),), minor=0)
        self.reads("content-length: 5\r\n\r\n", (("content-length", "5"),), status=304)

    def test_bad(self):
        self.faults("content-length: ", "\r", "length")
        self.faults("content-length:", "\r", "length")
        self.faults("content-length: 12345", "6", "length")
        self.faults("content-length: 1 ", "2", "length")
        self.faults("content-length: ", "-1", "length")
        self.faults("content-length: ", "+1", "length")
        self.faults("content-length: 1", ",1", "length")
        self.faults("content-length: 1", "a", "length")
        self.faults("content-length: 1", "\n", "length")
        self.faults("content-length: 1\r", "1", "field")
        self.faults("content-length: 1 \r", " ", "field")

    def test_where_it_is_not_allowed(self):
        for place, minor, status in PLACES[:4]:
            self.faults("content-length: 1\r\ncontent-length", ": 1", "length", place, minor, status)
        self.faults("transfer-encoding: chunked\r\na: b\r\nContent-Length", ":", "length")
        for status in (100, 102, 199, 204):
            self.faults("a: b\r\nContent-length", ": 0", "length", status=status)
        self.faults("content-length", ":", "trailer", "trailer")


class CodingTest(Heads):
    def test_good(self):
        for value in ("chunked", "CHUNKED", "ChunKed"):
            blanks = " \t" * 600
            for ahead, behind in (("", ""), (" ", "\t "), (blanks, blanks)):
                text = f"Transfer-Encoding:{ahead}{value}{behind}\r\n\r\n"
                self.reads(text, (("transfer-encoding", value),))

    def test_bad(self):
        self.faults("transfer-encoding: ", "\r", "coding")
        self.faults("transfer-encoding: ", "gzip, chunked", "coding")
        self.faults("transfer-encoding: chunke", "\r", "coding")
        self.faults("transfer-encoding: chunke", " d", "coding")
        self.faults("transfer-encoding: c", "\thunked", "coding")
        self.faults("transfer-encoding: \t ", "x", "coding")
        self.faults("transfer-encoding: chunked", ", chunked", "coding")
        self.faults("transfer-encoding: chunked", "d", "coding")
        self.faults("transfer-encoding: chunked ", "c", "coding")
        self.faults("transfer-encoding: chunked\r", "\r", "field")

    def test_where_it_is_not_allowed(self):
        self.faults("transfer-encoding", ":", "coding", minor=0)
        self.faults("host: h\r\ntransfer-encoding", ":", "coding", "ask", 0, 0)
        self.faults("transfer-encoding: chunked\r\nTransfer-encoding", ": chunked", "coding")
        self.faults("content-length: 0\r\ntransfer-encoding", ": chunked", "coding")
        for status in (100, 150, 199, 204):
            self.faults("transfer-encoding", ": chunked", "coding", status=status)
        self.faults("transfer-encoding", ":", "trailer", "trailer")


class HostTest(Heads):
    def ask_reads(self, text, fields, minor=1):
        self.reads(text, fields, "ask", minor, 0)

    def ask_faults(self, good, bad, word="host", minor=1):
        self.faults(good, bad, word, "ask", minor, 0)

    def test_good(self):
        self.ask_reads("Host: a.b-C_9:80[]\r\n\r\n", (("host", "a.b-C_9:80[]"),))
        self.ask_reads("host:\r\n\r\n", (("host", ""),))
        self.ask_reads("host: \t \r\n\r\n", (("host", ""),))
        blanks = "\t " * 800
        self.ask_reads("host:" + blanks + "h" * 1000 + blanks + "\r\n\r\n", (("host", "h" * 1000),))
        self.ask_reads("\r\n", (), 0)
        self.ask_reads("host: h\r\n\r\n", (("host", "h"),), 0)

    def test_bad(self):
        self.ask_faults("host: " + "h" * 1000, "h")
        self.ask_faults("host: a ", "b")
        for sign in ("/", ",", "%", "\x80", "\n", "@", "~", "\\"):
            self.ask_faults("host: a", sign)
            self.ask_faults("host: a", sign, minor=0)
        self.ask_faults("host: h\r", "h", "field")

    def test_each_sign(self):
        good = "0123456789abcdefghijklmnopqrstuvwxyzABCDEFGHIJKLMNOPQRSTUVWXYZ.-:[]_ \t\r"
        for code in range(256):
            answer = fed(FieldsReader("ask", 1, 0), octets("host:a") + (code,))[1]
            self.assertEqual(answer, None if chr(code) in good else ("fault", "host"), code)

    def test_how_often(self):
        self.ask_faults("", "\r\n")
        self.ask_faults("a: b\r\n", "\r\n")
        for minor in (0, 1):
            self.ask_faults("host: h\r\nHOST", ": h", minor=minor)
            self.ask_faults("host:\r\na: b\r\nHost", ":", minor=minor)

    def test_an_ordinary_field_in_responses(self):
        self.reads("host: a b/c\r\nhost: d\r\n\r\n", (("host", "a b/c"), ("host", "d")))
        self.reads("\r\n", ())


class TrailersTest(Heads):
    def test_not_allowed(self):
        for name in ("content-length", "transfer-encoding", "host", "trailer", "connection"):
            for written in (name, name.upper(), name.title()):
                self.faults(written, ": x", "trailer", "trailer", 1, 0)
                self.faults("a: b\r\n" + written, ":", "trailer", "trailer", 1, 0)

    def test_other_faults_are_field(self):
        self.faults("a", " ", "field", "trailer", 1, 0)
        self.faults("\r", "\r", "field", "trailer", 1, 0)
        self.faults("a:" + "v" * 1000, "v", "field", "trailer", 1, 0)

    def test_names_nearly_the_same(self):
        text = lines("trailers: a", "hosts: b", "connections: c", "expect: d")
        answer = fed(FieldsReader("trailer", 1, 0), text)[1]
        self.assertEqual(answer, ("fields", (("trailers", "a"), ("hosts", "b"), ("connections", "c"), ("expect", "d"))))

    def test_allowed_elsewhere(self):
        self.reads("trailer: x\r\nconnection: y\r\n\r\n", (("trailer", "x"), ("connection", "y")))


class ManyFieldsTest(Heads):
    def test_random_fields_are_read_in_order(self):
        chance = random.Random(31)
        signs = [chr(code) for code in range(33, 127) if code != 37]
        for _ in range(100):
            fields = []
            rows = []
            for at in range(chance.randrange(12)):
                name = "x" + "".join(chance.choice("abcXYZ-9") for _ in range(chance.randrange(8)))
                value = "".join(chance.choice(signs + [" ", "\t"]) for _ in range(chance.randrange(20))).strip(" \t")
                fields.append((name.lower(), value))
                rows.append(name + ":" + " \t"[:chance.randrange(3)] + value + "\t "[:chance.randrange(3)])
            text = "".join(row + "\r\n" for row in rows) + "\r\n"
            self.reads(text, tuple(fields))


if __name__ == "__main__":
    unittest.main()
