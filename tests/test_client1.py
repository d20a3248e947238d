import unittest

from ownanswer.client1 import Client1
from ownanswer.errors import WrongUse
from ownanswer.writer import write_request
from support import octets, string, uneven

TARGET = octets("/")
HOST = (("host", "h"),)
OK = octets("HTTP/1.1 200 OK\r\nContent-Length: 2\r\n\r\nhi")
OK_RESPONSE = (200, (("content-length", "2"),), octets("hi"), ())


def request(method="GET", fields=(), body=()):
    return (method, TARGET, HOST + fields, body, ())


def asked(count, methods=None):
    client = Client1()
    for at in range(count):
        client.ask(request(methods[at] if methods else "GET"))
    return client


class AskingTest(unittest.TestCase):
    def test_numbers(self):
        client = Client1()
        self.assertEqual([client.ask(request()) for _ in range(4)], [0, 1, 2, 3])

    def test_requests_are_put_out_one_behind_the_other(self):
        client = Client1()
        rows = [request(), request("PUT", (("a", "b"),), (1, 2, 3)), request("HEAD")]
        for row in rows:
            client.ask(row)
        wanted = sum((write_request(row, None) for row in rows), ())
        self.assertEqual(client.give(10 ** 6), wanted)
        self.assertEqual(client.give(10 ** 6), ())
        client.ask(rows[0])
        self.assertEqual(client.give(10 ** 6), write_request(rows[0], None))

    def test_trailers_are_left_out(self):
        client = Client1()
        client.ask(("PUT", TARGET, HOST, (7,), (("t", "v"),)))
        self.assertEqual(string(client.give(999)), "PUT / HTTP/1.1\r\nhost: h\r\ncontent-length: 1\r\n\r\n\x07")

    def test_small_amounts(self):
        for size in (1, 2, 3, 7, 1000):
            client = asked(2)
            found = []
            while True:
                piece = client.give(size)
                self.assertLessEqual(len(piece), size)
                self.assertIsInstance(piece, tuple)
                if piece == ():
                    break
                found.extend(piece)
            self.assertEqual(tuple(found), write_request(request(), None) * 2)
        client = asked(1)
        self.assertEqual(client.give(0), ())
        self.assertEqual(client.give(3), octets("GET"))
        client.ask(request())
        rest = (write_request(request(), None) * 2)[3:]
        self.assertEqual(client.give(len(rest)), rest)

    def test_behind_close(self):
        for value in ("close", "CLOSE", "a , Close\t,b"):
            client = asked(1)
            self.assertEqual(client.ask(request("GET", (("connection", value),))), 1)
            self.assertIs(client.is_over(), False)
            with self.assertRaises(WrongUse) as caught:
                client.ask(request())
            self.assertEqual(caught.exception.word, "over")
            client.take(OK + OK)
            self.assertEqual(client.answers(), [(0, OK_RESPONSE), (1, OK_RESPONSE)])
            self.assertIs(client.is_over(), False)
            self.assertRaises(WrongUse, client.ask, request())
        client = Client1()
        client.ask(request("GET", (("connection", "closed"), ("close", "close"))))
        self.assertEqual(client.ask(request()), 1)


class AnswersTest(unittest.TestCase):
    def test_in_order(self):
        client = asked(3)
        client.take(OK)
        self.assertEqual(client.answers(), [(0, OK_RESPONSE)])
        self.assertEqual(client.answers(), [])
        client.take(OK[:-1])
        self.assertEqual(client.answers(), [])
        client.take(OK[-1:] + octets("HTTP/1.1 204 \r\n\r\n"))
        self.assertEqual(client.answers(), [(1, OK_RESPONSE), (2, (204, (), (), ()))])
        self.assertIs(client.is_over(), False)

    def test_kinds_of_bodies(self):
        client = asked(4, ("HEAD", "GET", "GET", "GET"))
        row = octets(
            "HTTP/1.1 200 \r\nContent-Length: 5\r\n\r\n"
            "HTTP/1.1 200 \r\nTransfer-Encoding: chunked\r\n\r\n2\r\nab\r\n1\r\nc\r\n0\r\nt: v\r\n\r\n"
            "HTTP/1.1 304 \r\ncontent-length: 9\r\n\r\n")
        wanted = [
            (0, (200, (("content-length", "5"),), (), ())),
            (1, (200, (("transfer-encoding", "chunked"),), octets("abc"), (("t", "v"),))),
            (2, (304, (("content-length", "9"),), (), ())),
        ]
        for pieces in ([row], [(octet,) for octet in row], uneven(row, 5)):
            client = asked(4, ("HEAD", "GET", "GET", "GET"))
            for piece in pieces:
                client.take(piece)
            self.assertEqual(client.answers(), wanted)

    def test_interim_responses_are_not_told(self):
        client = asked(2)
        interim = octets("HTTP/1.1 100 \r\nconnection: close\r\n\r\n")
        client.take(interim)
        self.assertEqual(client.answers(), [])
        client.take(interim + OK + interim + octets("HTTP/1.1 199 \r\n\r\n") + OK)
        self.assertEqual(client.answers(), [(0, OK_RESPONSE), (1, OK_RESPONSE)])
        self.assertIs(client.is_over(), False)


class OverTest(unittest.TestCase):
    def is_over_for_good(self, client):
        self.assertIs(client.is_over(), True)
        with self.assertRaises(WrongUse) as caught:
            client.ask(request())
        self.assertEqual(caught.exception.word, "over")
        client.take(OK)
        client.shut()
        self.assertEqual(client.answers(), [])

    def test_behind_the_last_response(self):
        for row in (octets("HTTP/1.0 200 \r\ncontent-length: 1\r\n\r\na"),
                    octets("HTTP/1.1 200 \r\nconnection: x, CLOSE\r\ncontent-length: 1\r\n\r\na")):
            client = asked(3)
            client.take(OK)
            client.take(row[:-1])
            self.assertIs(client.is_over(), False)
            client.take(row[-1:])
            numbers = client.answers()
            self.assertEqual(numbers[0], (0, OK_RESPONSE))
            self.assertEqual(numbers[1][0], 1)
            self.assertEqual(numbers[1][1][2], (97,))
            self.assertEqual(numbers[2:], [(2, ("fault", "lost"))])
            self.is_over_for_good(client)

    def test_octets_behind_the_last_response(self):
        row = octets("HTTP/1.1 204 \r\nconnection: close\r\n\r\n")
        for pieces in ([row + OK], [row, OK], [(octet,) for octet in row + OK]):
            client = asked(3)
            for piece in pieces:
                client.take(piece)
            wanted = [(0, (204, (("connection", "close"),), (), ())), (1, ("fault", "lost")), (2, ("fault", "lost"))]
            self.assertEqual(client.answers(), wanted)
            self.is_over_for_good(client)

    def test_behind_a_fault(self):
        for row, word in (("x", "line"), ("HTTP/1.1 200 \r\n ", "field"), ("HTTP/1.0 200 \r\ntransfer-encoding:", "coding"),
                          ("HTTP/1.1 204 \r\ncontent-length: 0", "length"),
                          ("HTTP/1.1 200 \r\ntransfer-encoding: chunked\r\n\r\nx", "chunk"),
                          ("HTTP/1.1 200 \r\ntransfer-encoding: chunked\r\n\r\n0\r\nhost:", "trailer")):
            client = asked(4)
            client.take(OK + octets(row) + OK)
            wanted = [(0, OK_RESPONSE), (1, ("fault", word)), (2, ("fault", "lost")), (3, ("fault", "lost"))]
            self.assertEqual(client.answers(), wanted)
            self.is_over_for_good(client)

    def test_unasked(self):
        client = asked(1)
        client.take(OK + OK)
        self.assertEqual(client.answers(), [(0, OK_RESPONSE)])
        self.is_over_for_good(client)

    def test_it_still_gives(self):
        client = asked(2)
        client.give(5)
        client.take(octets("x"))
        self.assertIs(client.is_over(), True)
        self.assertEqual(client.give(10 ** 6), (write_request(request(), None) * 2)[5:])

    def test_shut_with_an_answer_that_is_cut_off(self):
        for end in range(len(OK)):
            client = asked(3)
            client.take(OK + OK[:end])
            client.shut()
            wanted = [(0, OK_RESPONSE), (1, ("fault", "lost")), (2, ("fault", "lost"))]
            self.assertEqual(client.answers(), wanted)
            self.is_over_for_good(client)

    def test_shut_with_an_open_body(self):
        client = asked(2)
        client.take(octets("HTTP/1.1 200 \r\na: b\r\n\r\nxy"))
        self.assertEqual(client.answers(), [])
        self.assertIs(client.is_over(), False)
        client.shut()
        self.assertEqual(client.answers(), [(0, (200, (("a", "b"),), octets("xy"), ())), (1, ("fault", "lost"))])
        self.is_over_for_good(client)

    def test_shut_with_nothing_asked(self):
        client = Client1()
        client.shut()
        self.assertEqual(client.answers(), [])
        self.is_over_for_good(client)

    def test_shut_behind_an_interim_response(self):
        client = asked(1)
        client.take(octets("HTTP/1.1 100 \r\n\r\n"))
        client.shut()
        self.assertEqual(client.answers(), [(0, ("fault", "lost"))])

    def test_lists_are_new(self):
        client = asked(2)
        client.take(OK)
        first = client.answers()
        client.take(OK)
        self.assertEqual(first, [(0, OK_RESPONSE)])
        first.append("x")
        self.assertEqual(client.answers(), [(1, OK_RESPONSE)])


if __name__ == "__main__":
    unittest.main()
