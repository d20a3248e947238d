"""The server of version two ([9.11]) against a client's end by hand."""

import unittest

from support import octets
from support2 import ANSWER, OPENING, SETTINGS, Peer, ask_list, data, pairs, reply_list, resets, row_of

from ownanswer.errors import WrongUse
from ownanswer.server2 import Server2

HOST = (":authority", "h")


def new():
    server = Server2()
    return server, Peer(server, False)


def asked(*methods):
    """A server that was told requests with these methods, on the streams 1, 3, .."""
    server, peer = new()
    for number, method in enumerate(methods):
        peer.send_head(2 * number + 1, ask_list(HOST, method=method), True)
    return server, peer, server.asked()


def response(status=200, fields=(), body="", trailers=()):
    return (status, fields, octets(body), trailers)


class AskedTest(unittest.TestCase):
    def test_whole_requests(self):
        head = ask_list(HOST, ("a", "b"))
        fields = (("host", "h"), ("a", "b"))
        # The second one has its authority behind the path, which counts for nothing.
        for rows, wanted in (
            ([("head", head, True)], ("GET", octets("/"), fields, (), ())),
            ([("head", head, False), ("data", "xy", False), ("data", "z", True)], ("GET", octets("/"), fields, octets("xyz"), ())),
            ([("head", head, False), ("data", "", True)], ("GET", octets("/"), fields, (), ())),
            ([("head", head, False), ("data", "x", False), ("head", pairs(("t", "v")), True)], ("GET", octets("/"), fields, (120,), (("t", "v"),))),
            ([("head", head, False), ("head", pairs(("t", "v")), False), ("data", "", True)], ("GET", octets("/"), fields, (), (("t", "v"),))),
        ):
            server, peer = new()
            for kind, content, last in rows:
                self.assertEqual(server.asked(), [])
                if kind == "head":
                    peer.send_head(1, content, last)
                else:
                    peer.send(data(1, content, last))
            self.assertEqual(server.asked(), [(0, wanted)])
            self.assertEqual(server.asked(), [])

    def test_numbers_are_those_of_completion(self):
        server, peer = new()
        for stream in (1, 3, 5):
            peer.send_head(stream, ask_list(("n", str(stream))))
        peer.send(data(5, "", True), data(1, "", True))
        self.assertEqual([(number, told[2]) for number, told in server.asked()], [(0, (("n", "5"),)), (1, (("n", "1"),))])
        peer.send(data(3, "", True))
        self.assertEqual([(number, told[2]) for number, told in server.asked()], [(2, (("n", "3"),))])
        for number, stream in ((0, 5), (2, 3), (1, 1)):
            server.answer(number, response())
            self.assertEqual(peer.frames(), [("head", stream, True, reply_list())])

    def test_nothing_depends_on_calls_of_asked(self):
        server, peer = new()
        peer.send_head(1, ask_list(), True)
        peer.send_head(3, ask_list(), True)
        peer.send(("reset", 1, 0))
        self.assertEqual([number for number, _ in server.asked()], [0, 1])
        # The stream of the first one is closed.
        server.answer(0, response())
        server.answer(1, response())
        self.assertEqual(peer.frames(), [("head", 3, True, reply_list())])

    def test_the_opening(self):
        server = Server2()
        self.assertEqual(server.give(10 ** 9), row_of([SETTINGS]))
        for octet in OPENING + row_of([SETTINGS]):
            server.take([octet])
        self.assertEqual(server.give(10 ** 9), row_of([ANSWER]))


class AnswerTest(unittest.TestCase):
    def test_answers(self):
        for method, given, frames in (
            ("GET", response(), [("head", 1, True, reply_list())]),
            ("GET", response(body="x"), [("head", 1, False, reply_list()), data(1, "x", True)]),
            ("GET", response(trailers=(("t", "v"),)), [("head", 1, False, reply_list()), ("head", 1, True, pairs(("t", "v")))]),
            ("GET", response(404, (("a", "b"), ("connection", "close")), "x", (("t", "v"),)),
             [("head", 1, False, reply_list(("a", "b"), status="404")), data(1, "x"), ("head", 1, True, pairs(("t", "v")))]),
            ("HEAD", response(body="x"), [("head", 1, True, reply_list())]),
            ("HEAD", response(body="x", trailers=(("t", "v"),)), [("head", 1, False, reply_list()), ("head", 1, True, pairs(("t", "v")))]),
            ("GET", response(204, body="x"), [("head", 1, True, reply_list(status="204"))]),
            ("GET", response(304, body="x"), [("head", 1, True, reply_list(status="304"))]),
            ("PUT", response(205, body="x"), [("head", 1, False, reply_list(status="205")), data(1, "x", True)]),
            ("head", response(body="x"), [("head", 1, False, reply_list()), data(1, "x", True)]),
        ):
            server, peer, _ = asked(method)
            server.answer(0, given)
            self.assertEqual(peer.frames(), frames)

    def test_any_order(self):
        server, peer, told = asked("GET", "GET", "GET")
        self.assertEqual(len(told), 3)
        for number in (2, 0, 1):
            server.answer(number, response(200 + number))
        self.assertEqual(sorted(frame[1:] for frame in peer.frames()), [(2 * number + 1, True, reply_list(status=str(200 + number))) for number in range(3)])
        self.assertFalse(server.is_over())

    def test_wrong_numbers(self):
        server, peer = new()
        peer.send_head(1, ask_list(), True)
        for number in (0, 1, -1):
            # It was not told yet.
            with self.assertRaises(WrongUse) as caught:
                server.answer(number, response())
            self.assertEqual(caught.exception.word, "number")
        server.asked()
        server.answer(0, response())
        for number in (0, 1, -1):
            with self.assertRaises(WrongUse) as caught:
                server.answer(number, response())
            self.assertEqual(caught.exception.word, "number")
        self.assertEqual(len(peer.frames()), 1)

    def test_long_bodies_share_the_line(self):
        server, peer, _ = asked("GET", "GET")
        server.answer(0, response(body="x" * 40000))
        server.answer(1, response(body="y" * 40000))
        frames = [frame for frame in peer.frames() if frame[0] == "data"]
        self.assertEqual([frame[1] for frame in frames], [1, 3, 1, 3])
        peer.send(("window", 0, 99999))
        self.assertEqual([(frame[1], frame[2]) for frame in peer.frames()], [(1, True), (3, True)])


class MalformedTest(unittest.TestCase):
    def found_at(self, rows):
        """The index of the frame with which a request is malformed; None if it is told."""
        server, peer = new()
        for at, (kind, content, last) in enumerate(rows):
            if kind == "head":
                peer.send_head(1, content, last)
            else:
                peer.send(data(1, content, last))
            told = server.asked()
            found = resets(peer.frames())
            if told:
                self.assertEqual((at, found), (len(rows) - 1, []))
                return None
            if found:
                self.assertEqual(found, [("reset", 1, 1)])
                peer.send(data(1, "x"))
                peer.send_head(1, ask_list(), True)
                # Others go on, and their numbers have no gap.
                peer.send_head(3, ask_list(), True)
                self.assertEqual([number for number, _ in server.asked()], [0])
                self.assertEqual((resets(peer.frames()), server.is_over()), ([], False))
                return at
        return self.fail("neither told nor reset")

    def test_heads(self):
        for head_list in (ask_list(method=""), ask_list(method="X" * 21), ask_list()[1:], ask_list()[:2], [], reply_list(), ask_list(("A", "b")),
                          ask_list(("keep-alive", "x")), ask_list((":status", "200")), ask_list(("te", "x")), ask_list(("x" * 41, "y")),
                          ask_list(("a", "y" * 1001))):
            for last in (True, False):
                self.assertEqual(self.found_at([("head", head_list, last)]), 0, head_list)
        self.assertIsNone(self.found_at([("head", ask_list(("te", "trailers"), ("x" * 40, "y" * 1000), method="X" * 20), True)]))

    def test_schemes(self):
        for scheme, right in (("\ta", True), (" ", True), ("a" * 1001, True), ("%", False), ("a\n", False), (" \x7f", False)):
            head_list = pairs((":method", "GET"), (":scheme", scheme), (":path", "/"))
            self.assertEqual(self.found_at([("head", head_list, True)]), None if right else 0, scheme)

    def test_trailers(self):
        head = ("head", ask_list(), False)
        for rows in (ask_list(), pairs((":x", "y")), pairs(("A", "b")), pairs(("connection", "b")), pairs(("a", "\tb"))):
            for last in (True, False):
                self.assertEqual(self.found_at([head, ("data", "x", False), ("head", rows, last)]), 2)
        trailers = ("head", pairs(("t", "v")), False)
        for row in (("data", "x", False), ("data", "x", True), ("head", pairs(("t", "v")), False), ("head", [], True)):
            self.assertEqual(self.found_at([head, trailers, row]), 2)
        self.assertIsNone(self.found_at([head, trailers, ("data", "", False), ("data", "", True)]))

    def test_content_length(self):
        for method in ("GET", "PUT", "HEAD"):
            for lengths, body, right in ((("3",), "abc", True), (("0",), "", True), (("3",), "ab", False), (("3",), "", False), (("3", "3"), "abc", False),
                                         (("x",), "abc", False), (("",), "", False)):
                head = ask_list(*[("content-length", length) for length in lengths], method=method)
                self.assertEqual(self.found_at([("head", head, False), ("data", body, True)]), None if right else 1, (method, lengths))
                if body == "":
                    self.assertEqual(self.found_at([("head", head, True)]), None if right else 0)

    def test_bodies_of_the_greatest_size(self):
        for size, right in ((99999, True), (100000, False)):
            rows = [("head", ask_list(), False)] + [("data", "x" * 16000, False)] * 6 + [("data", "x" * (size - 96000), False), ("data", "", True)]
            self.assertEqual(self.found_at(rows), None if right else 7)

    def test_a_request_that_is_malformed_at_its_end(self):
        """The answer is still to be sent, so the stream is reset."""
        server, peer = new()
        peer.send_head(1, ask_list(("content-length", "1")), True)
        self.assertEqual((server.asked(), peer.frames()), ([], [("reset", 1, 1)]))


class EndsTest(unittest.TestCase):
    def test_resets(self):
        server, peer = new()
        peer.send_head(1, ask_list())
        peer.send(("reset", 1, 0))
        peer.send_head(3, ask_list(), True)
        self.assertEqual([number for number, _ in server.asked()], [0])
        server.answer(0, response())
        self.assertEqual(peer.frames(), [("head", 3, True, reply_list())])

    def test_a_fault_of_the_line(self):
        server, peer, _ = asked("GET", "GET")
        peer.send_head(5, ask_list())
        peer.send_head(6, ask_list())
        self.assertEqual((server.asked(), server.is_over()), ([], True))
        server.answer(0, response())
        self.assertEqual(peer.frames(), [("away", 5, 1, ())])
        peer.send_head(7, ask_list(), True)
        self.assertEqual((server.asked(), peer.frames()), ([], []))

    def test_shut(self):
        server, peer, _ = asked("GET", "GET")
        peer.send_head(5, ask_list())
        peer.send_head(7, ask_list(), True)
        server.answer(1, response())
        frames = peer.frames(1)
        server.shut()
        self.assertFalse(server.is_over())
        # A request that is complete is told; one that is not is left out.
        self.assertEqual([number for number, _ in server.asked()], [2])
        server.answer(0, response())
        server.answer(2, response())
        self.assertEqual(frames + peer.frames(), [("head", 3, True, reply_list())])
        server.shut()
        self.assertEqual(server.asked(), [])

    def test_pieces(self):
        for size in (1, 5, 1000):
            server, peer = new()
            row = row_of([peer.head(1, ask_list(("A", "b"))), data(1, "x", True), peer.head(3, ask_list()), data(3, "ab", pad=2), ("ping", False, (7,) * 8),
                          data(3, "", True)])
            for at in range(0, len(row), size):
                server.take(row[at:at + size])
            self.assertEqual(server.asked(), [(0, ("GET", octets("/"), (), octets("ab"), ()))])
            self.assertEqual(peer.frames(), [("reset", 1, 1), ("window", 0, 1), ("window", 0, 5), ("window", 3, 5), ("ping", True, (7,) * 8)])


if __name__ == "__main__":
    unittest.main()
