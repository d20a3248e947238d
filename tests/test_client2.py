"""The client of version two ([9.10]) against a server's end by hand."""

import unittest

from support import octets
from support2 import ANSWER, OPENING, SETTINGS, Peer, ask_list, data, pairs, reply_list, resets, row_of

from ownanswer.client2 import Client2
from ownanswer.errors import WrongUse


def new():
    client = Client2()
    return client, Peer(client, True)


def request(method="GET", fields=(), body="", trailers=()):
    return (method, octets("/"), fields, octets(body), trailers)


class AskTest(unittest.TestCase):
    def test_numbers_and_streams(self):
        client, peer = new()
        self.assertEqual([client.ask(request()) for _ in range(3)], [0, 1, 2])
        self.assertEqual(peer.frames(), [("head", stream, True, ask_list()) for stream in (1, 3, 5)])

    def test_bodies_and_trailers(self):
        for body, trailers, frames in (
            ("", (), [("head", 1, True, ask_list())]),
            ("ab", (), [("head", 1, False, ask_list()), data(1, "ab", True)]),
            ("", (("t", "v"),), [("head", 1, False, ask_list()), ("head", 1, True, pairs(("t", "v")))]),
            ("ab", (("t", "v"), ("host", "x")), [("head", 1, False, ask_list()), data(1, "ab"), ("head", 1, True, pairs(("t", "v")))]),
        ):
            client, peer = new()
            client.ask(request(body=body, trailers=trailers))
            self.assertEqual(peer.frames(), frames)

    def test_heads(self):
        client, peer = new()
        client.ask(("PUT", octets("/%20?q"), (("a", "1"), ("host", "h"), ("connection", "close"), ("te", "trailers")), (), ()))
        self.assertEqual(peer.frames(), [("head", 1, True, pairs((":method", "PUT"), (":scheme", "http"), (":authority", "h"), (":path", "/%20?q"), ("a", "1"),
                                                                 ("te", "trailers")))])
        # The member close counts for nothing here.
        self.assertEqual(client.ask(request()), 1)

    def test_the_opening(self):
        client = Client2()
        self.assertEqual(client.give(10 ** 9), OPENING + row_of([("settings", False, ((2, 0),))]))
        self.assertEqual(client.give(10 ** 9), ())


class AnswersTest(unittest.TestCase):
    def test_whole_answers(self):
        for rows, wanted in (
            ([("head", reply_list(), True)], (200, (), (), ())),
            ([("head", reply_list(("a", "1"), ("a", "2"), status="404"), False), ("data", "xy", False), ("data", "z", True)],
             (404, (("a", "1"), ("a", "2")), octets("xyz"), ())),
            ([("head", reply_list(), False), ("data", "", True)], (200, (), (), ())),
            ([("head", reply_list(), False), ("data", "xy", False), ("head", pairs(("t", "v")), True)], (200, (), octets("xy"), (("t", "v"),))),
            ([("head", reply_list(), False), ("head", pairs(("t", "v")), False), ("data", "", True)], (200, (), (), (("t", "v"),))),
            ([("head", reply_list(), False), ("head", [], True)], (200, (), (), ())),
            ([("head", reply_list(("a", "b"), status="103"), False), ("head", reply_list(status="100"), False), ("head", reply_list(), True)],
             (200, (), (), ())),
        ):
            client, peer = new()
            client.ask(request())
            peer.frames()
            for at, (kind, content, last) in enumerate(rows):
                self.assertEqual(client.answers(), [])
                if kind == "head":
                    peer.send_head(1, content, last)
                else:
                    peer.send(data(1, content, last))
            self.assertEqual(client.answers(), [(0, wanted)])
            self.assertEqual(client.answers(), [])

    def test_they_come_in_the_order_in_which_they_are_complete(self):
        client, peer = new()
        for _ in range(3):
            client.ask(request())
        peer.frames()
        peer.send_head(5, reply_list(status="205"))
        peer.send_head(1, reply_list(status="201"))
        peer.send_head(3, reply_list(status="203"), True)
        peer.send(data(5, "x", True), data(1, "y", True))
        self.assertEqual([(number, response[0]) for number, response in client.answers()], [(1, 203), (2, 205), (0, 201)])

    def test_an_answer_ahead_of_the_whole_request(self):
        client, peer = new()
        client.ask(request(body="x" * 70000))
        peer.frames()
        peer.send_head(1, reply_list(), True)
        self.assertEqual(client.answers(), [(0, (200, (), (), ()))])
        peer.send(("window", 0, 70000), ("window", 1, 70000))
        self.assertEqual(sum(len(frame[3]) for frame in peer.frames()), 70000 - 65535)
        # What comes behind the answer changes nothing.
        client.ask(request(body="x" * 70000))
        peer.frames()
        peer.send_head(3, reply_list(), True)
        peer.send(("reset", 3, 0))
        self.assertEqual(client.answers(), [(1, (200, (), (), ()))])

    def test_bodies_of_the_greatest_size(self):
        for size, right in ((99999, True), (100000, False)):
            for trailers in (True, False):
                client, peer = new()
                client.ask(request())
                client.ask(request())
                peer.frames()
                peer.send_head(1, reply_list())
                for at in range(0, 96000, 16000):
                    peer.send(data(1, "x" * 16000))
                rest = size - 96000
                peer.send(data(1, "x" * rest, not trailers))
                if right and trailers:
                    peer.send_head(1, [], True)
                found = client.answers()
                self.assertEqual(found, [(0, (200, (), octets("x" * size), ()) if right else ("fault", "value"))])
                # If the stream is closed by its end, there is nothing to be reset.
                self.assertEqual(resets(peer.frames()), [] if right or not trailers else [("reset", 1, 1)])
                peer.send_head(3, reply_list(), True)
                self.assertEqual(client.answers(), [(1, (200, (), (), ()))])


class MalformedTest(unittest.TestCase):
    def found_at(self, rows, method="GET", body="more"):
        """The index of the frame with which an answer is malformed; None if it is complete."""
        client = Client2()
        peer = Peer(client, True, opened=False)
        # The body waits for a window, so that the stream is not closed by the answer's end.
        peer.send(("settings", False, ((4, 0),)))
        client.ask(request(method, body=body))
        client.ask(request())
        peer.frames()
        for at, (kind, content, last) in enumerate(rows):
            if kind == "head":
                peer.send_head(1, content, last)
            else:
                peer.send(data(1, content, last))
            found = client.answers()
            if found:
                number, response = found[0]
                self.assertEqual((len(found), number), (1, 0))
                peer.send_head(3, reply_list(), True)
                self.assertEqual(client.answers(), [(1, (200, (), (), ()))])
                if response[0] == "fault":
                    self.assertEqual(response, ("fault", "value"))
                    self.assertEqual(resets(peer.frames()), [("reset", 1, 1)])
                    peer.send(data(1, "x"))
                    peer.send_head(1, reply_list(), True)
                    self.assertEqual((client.answers(), resets(peer.frames()), client.is_over()), ([], [], False))
                    return at
                self.assertEqual(at, len(rows) - 1)
                return None
        return self.fail("no answer")

    def test_heads(self):
        for head_list in (reply_list(status="99"), reply_list(status="600"), reply_list(("A", "b")), reply_list(("connection", "x")), [], ask_list(),
                          reply_list((":status", "200")), pairs(("a", "b"), (":status", "200")), reply_list(("a", " b"))):
            for last in (True, False):
                self.assertEqual(self.found_at([("head", head_list, last)]), 0, head_list)
                self.assertEqual(self.found_at([("head", reply_list(status="100"), False), ("head", head_list, last)]), 1, head_list)

    def test_no_head(self):
        self.assertEqual(self.found_at([("data", "x", False)]), 0)
        self.assertEqual(self.found_at([("data", "", True)]), 0)
        self.assertEqual(self.found_at([("data", "x", True)]), 0)
        self.assertEqual(self.found_at([("head", reply_list(status="100"), True)]), 0)
        self.assertEqual(self.found_at([("head", reply_list(status="199"), False), ("data", "", False), ("data", "x", False)]), 2)
        self.assertEqual(self.found_at([("head", reply_list(status="101"), False), ("data", "", True)]), 1)
        self.assertEqual(self.found_at([("head", pairs(("t", "v")), False)]), 0)

    def test_trailers(self):
        head = ("head", reply_list(), False)
        for rows in (reply_list(), pairs((":x", "y")), pairs(("A", "b")), pairs(("upgrade", "b")), pairs(("te", "b")), pairs(("a", "b ")), reply_list(status="100")):
            for last in (True, False):
                self.assertEqual(self.found_at([head, ("data", "x", False), ("head", rows, last)]), 2)
        trailers = ("head", pairs(("t", "v")), False)
        for row in (("data", "x", False), ("data", "x", True), ("head", pairs(("t", "v")), False), ("head", [], True)):
            self.assertEqual(self.found_at([head, trailers, row]), 2)
        self.assertIsNone(self.found_at([head, trailers, ("data", "", False), ("data", "", True)]))

    def test_content_length(self):
        for lengths, body, right in ((("3",), "abc", True), (("0",), "", True), (("003",), "abc", True), (("00",), "", True), (("3",), "ab", False),
                                     (("3",), "abcd", False), (("3",), "", False), (("0",), "a", False), (("3", "3"), "abc", False), (("3", "4"), "abc", False),
                                     (("x",), "abc", False), (("",), "", False), (("+3",), "abc", False), (("3, 3",), "abc", False), (("-0",), "", False),
                                     (("9" * 999,), "abc", False), (("0" * 998 + "3",), "abc", True)):
            fields = [("content-length", length) for length in lengths]
            wanted = None if right else 1
            # It is judged at the end, in data, by an end without octets, or in trailers.
            self.assertEqual(self.found_at([("head", reply_list(*fields), False), ("data", body, True)]), wanted, lengths)
            wanted = None if right else 2
            self.assertEqual(self.found_at([("head", reply_list(*fields), False), ("data", body, False), ("data", "", True)]), wanted)
            self.assertEqual(self.found_at([("head", reply_list(*fields), False), ("data", body, False), ("head", pairs(("content-length", "77")), True)]), wanted)

    def test_content_length_that_is_not_asked_for(self):
        fields = [("content-length", "x"), ("content-length", "77")]
        for status, method, wanted in (("200", "HEAD", None), ("404", "HEAD", None), ("204", "GET", None), ("304", "GET", None), ("204", "HEAD", None),
                                       ("200", "GET", 0), ("200", "head", 0), ("205", "GET", 0), ("303", "PUT", 0)):
            self.assertEqual(self.found_at([("head", reply_list(*fields, status=status), True)], method), wanted, (status, method))

    def test_a_stream_that_is_closed_by_its_end(self):
        client, peer = new()
        client.ask(request())
        peer.frames()
        peer.send_head(1, reply_list(("content-length", "1")), True)
        self.assertEqual(client.answers(), [(0, ("fault", "value"))])
        self.assertEqual(peer.frames(), [])


class EndsTest(unittest.TestCase):
    def asked(self, count):
        client, peer = new()
        for _ in range(count):
            client.ask(request())
        peer.frames()
        return client, peer

    def test_resets(self):
        client, peer = self.asked(3)
        peer.send_head(3, reply_list())
        peer.send(("reset", 3, 0), ("reset", 1, 8))
        self.assertEqual(client.answers(), [(1, ("fault", "reset")), (0, ("fault", "reset"))])
        peer.send_head(5, reply_list(), True)
        self.assertEqual(client.answers(), [(2, (200, (), (), ()))])
        self.assertFalse(client.is_over())

    def test_faults_of_a_stream(self):
        client, peer = self.asked(3)
        peer.send(("window", 1, 2 ** 31 - 1))
        self.assertEqual(client.answers(), [(0, ("fault", "flow"))])
        peer.send_head(3, reply_list(), True)
        peer.send(data(3, "x"))
        self.assertEqual(client.answers(), [(1, (200, (), (), ()))])
        self.assertEqual(resets(peer.frames()), [("reset", 1, 3), ("reset", 3, 5)])

    def test_away(self):
        client, peer = self.asked(3)
        peer.send(("away", 1, 0, ()))
        self.assertEqual(client.answers(), [(1, ("fault", "refused")), (2, ("fault", "refused"))])
        self.assertEqual(client.ask(request(body="x", trailers=(("a", "b"),))), 3)
        self.assertEqual(client.answers(), [(3, ("fault", "refused"))])
        peer.send_head(1, reply_list(), True)
        self.assertEqual(client.answers(), [(0, (200, (), (), ()))])
        self.assertFalse(client.is_over())

    def test_a_fault_of_the_line(self):
        client, peer = self.asked(3)
        peer.send_head(3, reply_list(), True)
        peer.send(("promise", 1, True, 2, (), None))
        self.assertEqual(client.answers(), [(1, (200, (), (), ())), (0, ("fault", "lost")), (2, ("fault", "lost"))])
        self.assertTrue(client.is_over())
        with self.assertRaises(WrongUse) as caught:
            client.ask(request())
        self.assertEqual(caught.exception.word, "over")
        self.assertEqual(peer.frames(), [("away", 0, 1, ())])
        peer.send(("ping", False, (0,) * 8))
        self.assertEqual((peer.frames(), client.answers()), ([], []))

    def test_shut(self):
        client, peer = self.asked(3)
        peer.send_head(3, reply_list(), True)
        peer.send_head(5, reply_list())
        client.shut()
        self.assertEqual(client.answers(), [(1, (200, (), (), ())), (0, ("fault", "lost")), (2, ("fault", "lost"))])
        self.assertTrue(client.is_over())
        with self.assertRaises(WrongUse) as caught:
            client.ask(request())
        self.assertEqual(caught.exception.word, "over")
        client.shut()
        peer.send(("ping", False, (0,) * 8))
        self.assertEqual((peer.frames(), client.answers()), ([], []))

    def test_what_is_put_out_is_still_given(self):
        client = Client2()
        client.shut()
        self.assertEqual(len(client.give(10 ** 9)), 24 + 15)

    def test_requests_that_wait(self):
        client = Client2()
        peer = Peer(client, True, opened=False)
        peer.send(("settings", False, ((3, 1),)))
        for _ in range(3):
            client.ask(request())
        self.assertEqual([frame[0] for frame in peer.frames()], ["settings", "settings", "head"])
        client.shut()
        self.assertEqual(client.answers(), [(number, ("fault", "lost")) for number in range(3)])

    def test_pieces(self):
        """A malformed answer is reset in its frame, whatever stands behind it in the piece."""
        for size in (1, 5, 1000):
            client, peer = self.asked(2)
            row = row_of([peer.head(1, reply_list()), peer.head(1, reply_list()), data(1, "x", True), data(1, "y"), peer.head(3, reply_list(), True), SETTINGS])
            for at in range(0, len(row), size):
                client.take(row[at:at + size])
            self.assertEqual(client.answers(), [(0, ("fault", "value")), (1, (200, (), (), ()))])
            # The streams were ended by this end; the second head has the first one reset, and the data are left out.
            self.assertEqual(peer.frames(), [("reset", 1, 1), ("window", 0, 1), ("window", 0, 1), ANSWER])


if __name__ == "__main__":
    unittest.main()
