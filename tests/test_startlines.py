import random
import re
import unittest

from ownanswer.startlines import LineReader
from support import fed, octets

TOKEN = "[-!#$&'*+.^_`|~0-9A-Za-z]"
ASK = re.compile(f"(?!CONNECT )({TOKEN}{{1,20}}) ([!-~]{{1,1000}}) HTTP/1[.]([01])\r\n")
REPLY = re.compile("HTTP/1[.]([01]) (?!101)([1-5][0-9][0-9]) [\t -$&-~]{0,200}\r\n")


class Lines(unittest.TestCase):
    side = "ask"

    def ends(self, line, answer):
        """The answer comes behind the last octet, and not before."""
        self.assertEqual(fed(LineReader(self.side), octets(line)), (len(line), answer))

    def faults(self, good, bad, word="line"):
        """What is good goes on; with the first octet of bad comes the fault."""
        self.assertEqual(fed(LineReader(self.side), octets(good)), (len(good), None))
        answer = fed(LineReader(self.side), octets(good + bad))
        self.assertEqual(answer, (len(good) + 1, ("fault", word)), good[-40:] + bad)


class AskTest(Lines):
    def test_lines(self):
        self.ends("GET / HTTP/1.1\r\n", ("line", ("GET", (47,), 1)))
        self.ends("GET / HTTP/1.0\r\n", ("line", ("GET", (47,), 0)))
        self.ends("get * HTTP/1.1\r\n", ("line", ("get", (42,), 1)))
        self.ends("!#$&'*+-.^_`|~ \x21\x25\x7e HTTP/1.1\r\n", ("line", ("!#$&'*+-.^_`|~", (33, 37, 126), 1)))

    def test_methods(self):
        self.ends("M" * 20 + " / HTTP/1.1\r\n", ("line", ("M" * 20, (47,), 1)))
        self.faults("M" * 20, "M")
        self.faults("", " / HTTP/1.1")
        self.faults("G", "\t")
        self.faults("G", "\r")
        self.faults("G", "%")
        self.faults("G", "/")
        self.faults("", "\x80")

    def test_each_first_octet(self):
        for code in range(256):
            wanted = None if re.fullmatch(TOKEN, chr(code)) else ("fault", "line")
            self.assertEqual(LineReader("ask").take(code), wanted, code)

    def test_connect_is_left_out(self):
        self.faults("CONNECT", " ")
        for method in ("CONNECTS", "CONNEC", "connect", "XCONNECT"):
            self.ends(f"{method} a:1 HTTP/1.1\r\n", ("line", (method, octets("a:1"), 1)))

    def test_targets(self):
        self.ends("GET " + "x" * 1000 + " HTTP/1.1\r\n", ("line", ("GET", octets("x" * 1000), 1)))
        self.faults("GET " + "x" * 1000, "x")
        self.faults("GET ", " ")
        self.faults("GET /", "\x7f")
        self.faults("GET /", "\t")
        self.faults("GET /", "\r")
        self.faults("GET ", "\x1f")

    def test_each_octet_of_a_target(self):
        for code in range(256):
            wanted = None if 33 <= code <= 126 else ("fault", "line")
            self.assertEqual(fed(LineReader("ask"), octets("G ") + (code,))[1], wanted, code)

    def test_version_begins_behind_the_second_blank(self):
        good = "GET / HTTP/1.1\r\n"
        for at in range(6, len(good)):
            self.faults(good[:at], "\x00", "version")
            self.faults(good[:at], "x", "version")
        self.faults("GET / ", " HTTP/1.1", "version")
        self.faults("GET / ", "h", "version")
        self.faults("GET / HTTP/", "2", "version")
        self.faults("GET / HTTP/1.", "2", "version")
        self.faults("GET / HTTP/1.1", " ", "version")
        self.faults("GET / HTTP/1.1", "\n", "version")
        self.faults("GET / HTTP/1.1\r", "\r", "version")

    def test_changed_lines(self):
        chance = random.Random(22)
        for _ in range(3000):
            line = list("PUT /a%20b?c HTTP/1.0\r\n")
            line[chance.randrange(len(line))] = chr(chance.randrange(128))
            text = "".join(line)
            found = ASK.match(text)
            answer = fed(LineReader("ask"), octets(text))[1]
            if found is None:
                self.assertNotEqual(answer is not None and answer[0], "line", text)
            else:
                wanted = (found.group(1), octets(found.group(2)), int(found.group(3)))
                self.assertEqual(answer, ("line", wanted))


class ReplyTest(Lines):
    side = "reply"

    def test_lines(self):
        self.ends("HTTP/1.1 200 OK\r\n", ("line", (200, 1)))
        self.ends("HTTP/1.0 404 \r\n", ("line", (404, 0)))
        self.ends("HTTP/1.1 100 \t~ $&\r\n", ("line", (100, 1)))
        self.ends("HTTP/1.1 599 x\r\n", ("line", (599, 1)))

    def test_each_octet_of_the_start(self):
        good = "HTTP/1.1 200 \r\n"
        for at in range(len(good)):
            for bad in "\x00x\x80":
                if good[at] != "\r" or bad != "x":
                    self.faults(good[:at], bad)

    def test_versions(self):
        self.faults("HTTP/1.", "2")
        self.faults("HTTP/", "2")
        self.faults("", "h")
        self.faults("", "\r")
        self.faults("", " ")

    def test_statuses(self):
        for status in range(1000):
            line = f"HTTP/1.1 {status:03d} \r\n"
            if 100 <= status <= 599 and status != 101:
                self.ends(line, ("line", (status, 1)))
            else:
                self.assertEqual(fed(LineReader("reply"), octets(line))[1], ("fault", "line"))
        self.faults("HTTP/1.1 ", "0")
        self.faults("HTTP/1.1 ", "6")
        self.faults("HTTP/1.1 10", "1")
        self.faults("HTTP/1.0 10", "1")
        self.faults("HTTP/1.1 20", " ")
        self.faults("HTTP/1.1 200", "0")
        self.faults("HTTP/1.1 200", "\r")
        self.faults("HTTP/1.1 ", " ")

    def test_reasons(self):
        self.ends("HTTP/1.1 200 " + "r" * 200 + "\r\n", ("line", (200, 1)))
        self.faults("HTTP/1.1 200 " + "r" * 200, "r")
        self.faults("HTTP/1.1 200 a", "\n")
        self.faults("HTTP/1.1 200 a\r", "\r")
        for code in range(256):
            good = code == 9 or code == 13 or (32 <= code <= 126 and code != 37)
            answer = fed(LineReader("reply"), octets("HTTP/1.1 200 a") + (code,))[1]
            self.assertEqual(answer, None if good else ("fault", "line"), code)

    def test_changed_lines(self):
        chance = random.Random(23)
        for _ in range(3000):
            line = list("HTTP/1.1 100 No\r\n")
            for _ in range(chance.randrange(1, 3)):
                line[chance.randrange(len(line))] = chr(chance.choice((48, 49, 13, 10, chance.randrange(128))))
            text = "".join(line)
            found = REPLY.match(text)
            answer = fed(LineReader("reply"), octets(text))[1]
            if found is None:
                self.assertNotEqual(answer is not None and answer[0], "line", text)
            else:
                self.assertEqual(answer, ("line", (int(found.group(2)), int(found.group(1)))))


if __name__ == "__main__":
    unittest.main()
