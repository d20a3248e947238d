import random
import unittest

from ownanswer.chunks import ChunkReader, write_chunks
from support import octets, string


def read(row):
    """(body, last answer, how many octets were taken)."""
    reader = ChunkReader()
    body = []
    for at, octet in enumerate(row):
        answer = reader.take(octet)
        if answer is None:
            continue
        if answer[0] != "data":
            return (tuple(body), answer, at + 1)
        body.append(answer[1])
    return (tuple(body), None, len(row))


class ReadingTest(unittest.TestCase):
    def reads(self, text, body, trailers=()):
        self.assertEqual(read(octets(text)), (octets(body), ("end", trailers), len(text)))

    def faults(self, good, bad, word="chunk"):
        self.assertEqual(read(octets(good))[1:], (None, len(good)))
        self.assertEqual(read(octets(good + bad))[1:], (("fault", word), len(good) + 1), good[-30:] + bad)

    def test_ordinary(self):
        self.reads("0\r\n\r\n", "")
        self.reads("3\r\nabc\r\n0\r\n\r\n", "abc")
        self.reads("3\r\nabc\r\n2\r\n\r\n\r\n00\r\n\r\n", "abc\r\n")
        self.reads("1\r\n0\r\n1\r\n\x00\r\n1\r\n\xff\r\n0\r\n\r\n", "0\x00\xff")

    def test_data_is_told_octet_by_octet(self):
        reader = ChunkReader()
        answers = [reader.take(octet) for octet in octets("2\r\nab\r\n0\r\n\r\n")]
        wanted = [None] * 3 + [("data", 97), ("data", 98)] + [None] * 6 + [("end", ())]
        self.assertEqual(answers, wanted)

    def test_sizes(self):
        for digits in ("a", "A", "0a", "000a", "00A"):
            self.reads(digits + "\r\n0123456789\r\n0\r\n\r\n", "0123456789")
        for digits in ("0", "00", "000", "0000"):
            self.reads(digits + "\r\n\r\n", "")
        self.reads("fF\r\n" + "x" * 255 + "\r\n0\r\n\r\n", "x" * 255)
        self.reads("1aB\r\n" + "x" * 0x1ab + "\r\n0\r\n\r\n", "x" * 0x1ab)
        self.reads("FFFF\r\n" + "x" * 65535 + "\r\n0\r\n\r\n", "x" * 65535)
        self.faults("0000", "0")
        self.faults("0001", "1")
        self.faults("", "\r")
        self.faults("", ";")
        self.faults("", "g")
        self.faults("", "-")
        self.faults("1", " ")
        self.faults("1", "x")
        self.faults("1", "\n")
        self.faults("1\r", "\r")
        self.faults("1\r\na\r\n", "\r")

    def test_each_octet_behind_a_digit(self):
        for code in range(256):
            good = chr(code) in "0123456789abcdefABCDEF;\r"
            answer = read((49, code))[1]
            self.assertEqual(answer, None if good else ("fault", "chunk"), code)
            good = chr(code) in "0123456789abcdefABCDEF"
            self.assertEqual(read((code,))[1], None if good else ("fault", "chunk"), code)

    def test_extra_signs(self):
        self.reads("1;\r\na\r\n0;\r\n\r\n", "a")
        self.reads("1;x=\"y; \"\t\r\na\r\n0;" + "z" * 200 + "\r\n\r\n", "a")
        self.faults("1;" + "z" * 200, "z")
        self.faults("1;", "\n")
        self.faults("1;", "%")
        self.faults("1;x\r", "x")
        self.reads("1;" + "z" * 200 + "\r\na\r\n1;" + "z" * 200 + "\r\nb\r\n0\r\n\r\n", "ab")

    def test_line_end_behind_the_data(self):
        self.faults("1\r\na", "b")
        self.faults("1\r\na", "\n")
        self.faults("1\r\na\r", "\r")

    def test_greatest_sum(self):
        big = "FFFF\r\n" + "x" * 65535 + "\r\n"
        rest = 99999 - 65535
        self.reads(big + "86a0\r\n" + "y" * rest + "\r\n0\r\n\r\n", "x" * 65535 + "y" * rest)
        self.faults(big + "86a", "1")
        self.faults(big + "86b", "0")
        self.faults(big + "F00", "0")
        self.reads(big + "1\r\ny\r\n0\r\n\r\n", "x" * 65535 + "y")
        full = big + "86a0\r\n" + "y" * rest + "\r\n"
        for digit in "123456789abcdefABCDEF":
            self.faults(full, digit)
            self.faults(full + "000", digit)
        self.reads(full + "0000;x\r\n\r\n", "x" * 65535 + "y" * rest)

    def test_sum_of_many_chunks(self):
        row = "ffff\r\n" + "x" * 65535 + "\r\n8000\r\n" + "y" * 32768 + "\r\n"
        left = 99999 - 65535 - 32768
        self.reads(row + f"{left:X}\r\n" + "z" * left + "\r\n0\r\n\r\n", "x" * 65535 + "y" * 32768 + "z" * left)
        self.faults(row + f"{left + 1:x}"[:-1], f"{left + 1:x}"[-1])


class TrailersTest(unittest.TestCase):
    def ends(self, text, trailers):
        row = octets("0\r\n" + text)
        self.assertEqual(read(row), ((), ("end", trailers), len(row)))

    def faults(self, good, bad, word):
        good = "1\r\na\r\n0\r\n" + good
        self.assertEqual(read(octets(good))[1:], (None, len(good)))
        self.assertEqual(read(octets(good + bad))[1:], (("fault", word), len(good) + 1))

    def test_good(self):
        self.ends("\r\n", ())
        self.ends("A: b\r\nc:  d \r\na: \r\n\r\n", (("a", "b"), ("c", "d"), ("a", "")))

    def test_bad(self):
        self.faults("", " a: b", "field")
        self.faults("a", " : b", "field")
        self.faults("a: b\r", "x", "field")
        self.faults("a: b", "\n", "field")
        self.faults("\r", "x", "field")
        self.faults("", "\n", "field")
        self.faults("n" * 40, "n", "field")

    def test_not_allowed(self):
        for name in ("content-length", "Transfer-Encoding", "HOST", "trailer", "Connection"):
            self.faults(name, ": x", "trailer")
            self.faults("a: b\r\n" + name, ":", "trailer")


class WritingTest(unittest.TestCase):
    def test_octets(self):
        self.assertEqual(write_chunks((), (5,), ()), octets("0\r\n\r\n"))
        self.assertEqual(write_chunks(octets("abc"), (5,), ()), octets("3\r\nabc\r\n0\r\n\r\n"))
        self.assertEqual(write_chunks(octets("abcdef"), (3,), ()), octets("3\r\nabc\r\n3\r\ndef\r\n0\r\n\r\n"))
        written = write_chunks(octets("abcdefgh"), (1, 3), (("x", "y"), ("z", "")))
        wanted = "1\r\na\r\n3\r\nbcd\r\n1\r\ne\r\n3\r\nfgh\r\n0\r\nx: y\r\nz: \r\n\r\n"
        self.assertEqual(written, octets(wanted))

    def test_sizes_have_lower_case_digits_without_zeros(self):
        written = string(write_chunks((120,) * 43981, (65535,), ()))
        self.assertTrue(written.startswith("abcd\r\nxxx"))
        self.assertTrue(string(write_chunks((120,) * 300, (16,), ())).startswith("10\r\n"))
        self.assertTrue(string(write_chunks((120,) * 65535, (65535,), ())).startswith("ffff\r\n"))

    def test_what_is_written_is_read(self):
        chance = random.Random(27)
        for _ in range(60):
            body = tuple(chance.randrange(256) for _ in range(chance.choice((0, 1, 2, 17, 300))))
            sizes = tuple(chance.choice((1, 2, 3, 15, 16, 255, 65535)) for _ in range(chance.randrange(1, 4)))
            trailers = tuple(("t", "v" * chance.randrange(3)) for _ in range(chance.randrange(3)))
            row = write_chunks(body, sizes, trailers)
            self.assertEqual(read(row), (body, ("end", trailers), len(row)))

    def test_greatest_body(self):
        body = tuple(at % 251 for at in range(99999))
        row = write_chunks(body, (65535, 1), ())
        self.assertEqual(read(row), (body, ("end", ()), len(row)))

    def test_nothing_handed_in_is_changed(self):
        body, sizes, trailers = [1, 2, 3], [2], [("a", "b")]
        write_chunks(body, sizes, trailers)
        self.assertEqual((body, sizes, trailers), ([1, 2, 3], [2], [("a", "b")]))


if __name__ == "__main__":
    unittest.main()
