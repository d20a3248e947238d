import itertools
import unittest

from ownanswer.errors import WrongUse
from ownanswer.server1 import Server1
from ownanswer.writer import write_response
from support import lines, octets, string, uneven

GET = octets("GET /a HTTP/1.1\r\nHost: h\r\n\r\n")
GET_REQUEST = ("GET", octets("/a"), (("host", "h"),), (), ())
OLD = octets("GET /a HTTP/1.0\r\n\r\n")
CONTINUE = "HTTP/1.1 100 \r\n\r\n"


def waiting(body=""):
    return octets("PUT / HTTP/1.1\r\n") + lines("host: h", "content-length: 1", "expect: 100-continue") + octets(body)


def response(letter, fields=(), status=200):
    return (status, fields, octets(letter), ())


def written(letter):
    return string(write_response(response(letter), "GET", None))


class Servers(unittest.TestCase):
    def given(self, server):
        return string(server.give(10 ** 6))

    def refuses(self, server, number):
        with self.assertRaises(WrongUse) as caught:
            server.answer(number, response("x"))
        self.assertEqual(caught.exception.word, "number")


class AskedTest(Servers):
    def test_numbers(self):
        server = Server1()
        server.take(GET + octets("PUT /b HTTP/1.1\r\nhost: h\r\ncontent-length: 2\r\n\r\nhi"))
        second = ("PUT", octets("/b"), (("host", "h"), ("content-length", "2")), octets("hi"), ())
        self.assertEqual(server.asked(), [(0, GET_REQUEST), (1, second)])
        self.assertEqual(server.asked(), [])
        server.take(GET[:9])
        self.assertEqual(server.asked(), [])
        server.take(GET[9:] + GET)
        self.assertEqual(server.asked(), [(2, GET_REQUEST), (3, GET_REQUEST)])

    def test_chunked_requests_and_trailers(self):
        server = Server1()
        row = octets("P / HTTP/1.1\r\nhost: h\r\ntransfer-encoding: chunked\r\n\r\n1\r\na\r\n2\r\nbc\r\n0\r\nt: v\r\n\r\n")
        for piece in uneven(row, 3):
            server.take(piece)
        wanted = ("P", octets("/"), (("host", "h"), ("transfer-encoding", "chunked")), octets("abc"), (("t", "v"),))
        self.assertEqual(server.asked(), [(0, wanted)])

    def test_lists_are_new(self):
        server = Server1()
        server.take(GET)
        first = server.asked()
        first.append("x")
        server.take(GET)
        self.assertEqual(server.asked(), [(1, GET_REQUEST)])


class AnswerTest(Servers):
    def test_any_order_is_put_out_in_order(self):
        for order in itertools.permutations(range(4)):
            server = Server1()
            server.take(GET * 4)
            server.asked()
            there = []
            found = ""
            for number in order:
                server.answer(number, response("abcd"[number]))
                there.append(number)
                ready = 0
                while ready in there:
                    ready += 1
                found += self.given(server)
                self.assertEqual(found, "".join(written(letter) for letter in "abcd"[:ready]))
            self.assertIs(server.is_over(), False)

    def test_each_is_written_for_its_method(self):
        server = Server1()
        server.take(octets("HEAD /a HTTP/1.1\r\nHost: h\r\n\r\n") + GET)
        server.asked()
        server.answer(0, response("abc"))
        server.answer(1, (304, (("a", "b"),), octets("xy"), (("t", "v"),)))
        wanted = "HTTP/1.1 200 \r\ncontent-length: 3\r\n\r\nHTTP/1.1 304 \r\na: b\r\ncontent-length: 2\r\n\r\n"
        self.assertEqual(self.given(server), wanted)

    def test_wrong_numbers(self):
        server = Server1()
        self.refuses(server, 0)
        server.take(GET + GET)
        self.refuses(server, 0)
        server.asked()
        self.refuses(server, 2)
        self.refuses(server, -1)
        server.answer(1, response("b"))
        self.refuses(server, 1)
        server.answer(0, response("a"))
        self.refuses(server, 0)
        self.refuses(server, 1)
        server.take(GET)
        self.refuses(server, 2)
        self.assertEqual(self.given(server), written("a") + written("b"))

    def test_give_in_small_amounts(self):
        server = Server1()
        server.take(GET)
        server.asked()
        server.answer(0, response("abc"))
        found = []
        while True:
            piece = server.give(4)
            self.assertLessEqual(len(piece), 4)
            if piece == ():
                break
            found.extend(piece)
        self.assertEqual(string(found), written("abc"))

    def test_nothing_handed_in_is_changed(self):
        server = Server1()
        piece = list(OLD)
        server.take(piece)
        self.assertEqual(tuple(piece), OLD)
        server.asked()
        fields = [("a", "b")]
        server.answer(0, (200, fields, [1], ()))
        self.assertEqual(fields, [("a", "b")])


class CloseTest(Servers):
    def test_a_request_that_is_the_last(self):
        for row in (OLD, octets("GET / HTTP/1.1\r\nhost: h\r\nconnection: a, CLOSE\r\n\r\n")):
            server = Server1()
            server.take(GET + row + GET)
            self.assertEqual([number for number, _ in server.asked()], [0, 1])
            server.answer(1, response("b", (("a", "c"),)))
            self.assertIs(server.is_over(), False)
            server.answer(0, response("a"))
            self.assertIs(server.is_over(), True)
            last = "HTTP/1.1 200 \r\na: c\r\nconnection: close\r\ncontent-length: 1\r\n\r\nb"
            self.assertEqual(self.given(server), written("a") + last)

    def test_close_is_not_added_twice(self):
        for value in ("close", "x, Close", "CLOSE ,y"):
            server = Server1()
            server.take(OLD)
            server.asked()
            server.answer(0, response("b", (("connection", value), ("a", "c"))))
            wanted = f"HTTP/1.1 200 \r\nconnection: {value}\r\na: c\r\ncontent-length: 1\r\n\r\nb"
            self.assertEqual(self.given(server), wanted)
        server = Server1()
        server.take(OLD)
        server.asked()
        server.answer(0, response("b", (("connection", "closed"),)))
        wanted = "HTTP/1.1 200 \r\nconnection: closed\r\nconnection: close\r\ncontent-length: 1\r\n\r\nb"
        self.assertEqual(self.given(server), wanted)

    def test_a_response_that_says_close(self):
        server = Server1()
        server.take(GET * 3)
        server.asked()
        server.answer(2, response("c"))
        server.answer(1, response("b", (("connection", "x , CLOSE"),)))
        self.assertIs(server.is_over(), False)
        server.answer(0, response("a"))
        self.assertIs(server.is_over(), True)
        last = "HTTP/1.1 200 \r\nconnection: x , CLOSE\r\ncontent-length: 1\r\n\r\nb"
        self.assertEqual(self.given(server), written("a") + last)

    def test_nothing_is_put_out_or_taken_once_over(self):
        server = Server1()
        server.take(GET * 3)
        server.asked()
        server.answer(0, response("a", (("connection", "close"),)))
        self.assertIs(server.is_over(), True)
        server.answer(2, response("c"))
        self.refuses(server, 2)
        server.answer(1, response("b"))
        server.take(GET)
        self.assertEqual(server.asked(), [])
        server.take(octets("%"))
        server.shut()
        wanted = "HTTP/1.1 200 \r\nconnection: close\r\ncontent-length: 1\r\n\r\na"
        self.assertEqual(string(server.give(9)), wanted[:9])
        self.assertEqual(self.given(server), wanted[9:])
        self.assertEqual(self.given(server), "")


class ExpectTest(Servers):
    def test_directly_behind_the_head(self):
        server = Server1()
        row = waiting()
        server.take(row[:-1])
        self.assertEqual(self.given(server), "")
        server.take(row[-1:])
        self.assertEqual(self.given(server), CONTINUE)
        server.take(octets("x"))
        self.assertEqual(len(server.asked()), 1)
        server.answer(0, response("a"))
        self.assertEqual(self.given(server), written("a"))

    def test_behind_the_answers_before_it(self):
        server = Server1()
        server.take(GET + GET + waiting())
        server.asked()
        self.assertEqual(self.given(server), "")
        server.answer(1, response("b"))
        self.assertEqual(self.given(server), "")
        server.answer(0, response("a"))
        self.assertEqual(self.given(server), written("a") + written("b") + CONTINUE)
        server.take(octets("x") + waiting("y"))
        server.asked()
        server.answer(3, response("d"))
        server.answer(2, response("c"))
        self.assertEqual(self.given(server), written("c") + CONTINUE + written("d"))

    def test_not_behind_an_end(self):
        server = Server1()
        server.take(GET + waiting("x"))
        server.asked()
        server.answer(0, response("a", (("connection", "close"),)))
        self.assertNotIn(CONTINUE, self.given(server))

    def test_who_does_not_wait(self):
        server = Server1()
        server.take(octets("PUT / HTTP/1.1\r\n") + lines("host: h", "expect: 100-continue"))
        self.assertEqual(self.given(server), "")


class FaultsTest(Servers):
    STATUSES = (
        ("GET / HTTP/2.0", 505), ("GET / HTTP/1.1 ", 505),
        ("GET / HTTP/1.1\r\nhost: h\r\ntransfer-encoding: gzip", 501), ("GET / HTTP/1.0\r\ntransfer-encoding:", 501),
        ("GET / HTTP/1.1\r\nhost: h\r\ncontent-length: x", 411),
        ("GET / HTTP/1.1\r\nhost: h\r\ncontent-length: 1\r\ncontent-length: 1", 411),
        ("CONNECT a:1 HTTP/1.1", 400), ("\r\n\r\n\r\n", 400), ("GET / HTTP/1.1\r\n x", 400), ("GET / HTTP/1.1\r\n\r\n", 400),
        ("GET / HTTP/1.1\r\nhost: h\r\ntransfer-encoding: chunked\r\n\r\nx", 400),
        ("GET / HTTP/1.1\r\nhost: h\r\ntransfer-encoding: chunked\r\n\r\n0\r\ntrailer:", 400),
        ("GET / HTTP/1.1\r\nhost: h\r\nconnection: close\r\ntransfer-encoding: chunked\r\n\r\nx", 400),
    )

    def text(self, status):
        return f"HTTP/1.1 {status} \r\nconnection: close\r\ncontent-length: 0\r\n\r\n"

    def test_statuses(self):
        for row, status in self.STATUSES:
            for pieces in ([octets(row) + GET], [(octet,) for octet in octets(row) + GET]):
                server = Server1()
                for piece in pieces:
                    server.take(piece)
                self.assertEqual(self.given(server), self.text(status), row)
                self.assertIs(server.is_over(), True)
                self.assertEqual(server.asked(), [])
                server.take(GET)
                self.assertEqual(server.asked(), [])

    def test_behind_the_answers_before_it(self):
        for row, status in self.STATUSES:
            server = Server1()
            server.take(GET + GET + octets(row) + GET)
            self.assertIs(server.is_over(), False)
            self.assertEqual(server.asked(), [(0, GET_REQUEST), (1, GET_REQUEST)])
            server.answer(1, response("b"))
            self.assertEqual(self.given(server), "")
            server.answer(0, response("a"))
            self.assertEqual(self.given(server), written("a") + written("b") + self.text(status))
            self.assertIs(server.is_over(), True)
            self.refuses(server, 2)

    def test_behind_an_interim_response(self):
        server = Server1()
        server.take(octets("P / HTTP/1.1\r\n") + lines("host: h", "transfer-encoding: chunked", "expect: 100-continue"))
        server.take(octets("x"))
        self.assertEqual(self.given(server), CONTINUE + self.text(400))

    def test_not_behind_a_response_that_says_close(self):
        server = Server1()
        server.take(GET + octets("%"))
        server.asked()
        server.answer(0, response("a", (("connection", "close"),)))
        self.assertNotIn("400", self.given(server))

    def test_behind_the_last_request(self):
        for pieces in ([OLD + GET], [OLD, GET], [OLD, octets("\r\n")]):
            server = Server1()
            for piece in pieces:
                server.take(piece)
            self.assertEqual(len(server.asked()), 1)
            self.assertIs(server.is_over(), False)
            self.assertEqual(self.given(server), "")
            server.answer(0, response("a"))
            self.assertIs(server.is_over(), True)
            self.assertEqual(self.given(server), "HTTP/1.1 200 \r\nconnection: close\r\ncontent-length: 1\r\n\r\na")


class ShutTest(Servers):
    def test_a_request_that_is_not_complete_is_left_out(self):
        for end in range(len(GET)):
            server = Server1()
            server.take(GET + GET[:end])
            server.shut()
            self.assertEqual(server.asked(), [(0, GET_REQUEST)])
            server.answer(0, response("a"))
            self.assertEqual(self.given(server), written("a"))
            server.take(GET)
            self.assertEqual(server.asked(), [])
            self.assertEqual(self.given(server), "")

    def test_within_a_body(self):
        server = Server1()
        server.take(octets("PUT / HTTP/1.1\r\nhost: h\r\ncontent-length: 3\r\n\r\nab"))
        server.shut()
        self.assertEqual(server.asked(), [])
        self.assertEqual(self.given(server), "")


if __name__ == "__main__":
    unittest.main()
