import unittest

from ownanswer.errors import WrongUse
from ownanswer.reader import Reader
from support import lines, new_reader, octets, told, told_alike

END = ("end", ())
GET = octets("GET /a HTTP/1.1\r\nHost: h\r\n\r\n")
GET_HEAD = ("head", ("ask", "GET", octets("/a"), (("host", "h"),)))
OLD = octets("GET /a HTTP/1.0\r\n\r\n")
OLD_HEAD = ("head", ("ask", "GET", octets("/a"), ()))
OK = octets("HTTP/1.1 200 OK\r\nContent-Length: 2\r\n\r\nhi")
OK_EVENTS = [("head", ("reply", 200, (("content-length", "2"),))), ("body", octets("hi")), END]


def put(*rows):
    """A request with these field lines behind its host."""
    return octets("PUT /b HTTP/1.1\r\n") + lines("Host: h", *rows)


def put_head(*fields):
    return ("head", ("ask", "PUT", octets("/b"), (("host", "h"),) + fields))


class RequestsTest(unittest.TestCase):
    def tells(self, row, events, finish=False):
        self.assertEqual(told_alike(self, "ask", row, (), finish), events)

    def test_one(self):
        self.tells(GET, [GET_HEAD, END])
        self.tells((), [])

    def test_several(self):
        sized = put("Content-Length: 3") + octets("abc")
        chunked = put("Transfer-Encoding: chunked") + octets("2\r\nab\r\n1;x\r\nc\r\n0\r\nT: v\r\n\r\n")
        empty = put("Content-Length: 0")
        events = [
            GET_HEAD, END, put_head(("content-length", "3")), ("body", octets("abc")), END,
            put_head(("transfer-encoding", "chunked")), ("body", octets("abc")), ("end", (("t", "v"),)),
            put_head(("content-length", "0")), END, GET_HEAD, END,
        ]
        self.tells(GET + sized + chunked + empty + GET, events, True)

    def test_events_come_as_soon_as_they_are_certain(self):
        reader = Reader("ask")
        self.assertEqual(reader.take(GET[:-1]), [])
        self.assertEqual(reader.take(GET[-1:]), [GET_HEAD, END])
        row = put("content-length: 2")
        self.assertEqual(reader.take(row), [put_head(("content-length", "2"))])
        self.assertEqual(reader.take((7,)), [("body", (7,))])
        self.assertEqual(reader.take((8,)), [("body", (8,)), END])
        reader.take(put("transfer-encoding: chunked") + octets("2\r\n"))
        self.assertEqual(reader.take((7,)), [("body", (7,))])
        self.assertEqual(reader.take(octets("b\r\n0\r\n\r")), [("body", (98,))])
        self.assertEqual(reader.take((10,)), [END])

    def test_line_ends_ahead(self):
        end = octets("\r\n")
        self.tells(end + GET + end + end + GET, [GET_HEAD, END, GET_HEAD, END])
        self.tells(end + end + end + GET, [("fault", "line", 4)])
        self.tells(GET + end * 3, [GET_HEAD, END, ("fault", "line", len(GET) + 4)])
        self.tells(octets("\r\r"), [("fault", "line", 1)])
        self.tells(octets("\r\n\rG"), [("fault", "line", 3)])
        self.tells(octets("\n"), [("fault", "line", 0)])
        self.tells(end + octets(" "), [("fault", "line", 2)])

    def test_faults_stand_at_their_octet(self):
        for text, word in (
            ("CONNECT ", "line"), ("M" * 21, "line"), ("GET /a HTTP/2", "version"), ("GET /a HTTP/1.1\r\r", "version"),
            ("GET /a HTTP/1.1\r\n ", "field"), ("GET /a HTTP/1.1\r\na: b\r\n\r", "host"),
            ("GET /a HTTP/1.1\r\nHost: a/", "host"), ("GET /a HTTP/1.0\r\nTransfer-Encoding:", "coding"),
            ("GET /a HTTP/1.1\r\nContent-Length: 123456", "length"),
            ("GET /a HTTP/1.1\r\nhost: h\r\ntransfer-encoding: chunked\r\n\r\nx", "chunk"),
            ("GET /a HTTP/1.1\r\nhost: h\r\ntransfer-encoding: chunked\r\n\r\n0\r\nHost:", "trailer"),
            ("GET /a HTTP/1.1\r\nhost: h\r\ntransfer-encoding: chunked\r\n\r\n0\r\na\r", "field"),
        ):
            row = octets(text)
            events = told_alike(self, "ask", GET + row)
            self.assertEqual(events[-1], ("fault", word, len(GET) + len(row) - 1), text)
            self.assertEqual(told("ask", [GET + row[:-1]])[-1][0] == "fault", False, text)

    def test_nothing_behind_a_fault(self):
        reader = Reader("ask")
        events = reader.take(GET + octets("%") + GET)
        self.assertEqual(events, [GET_HEAD, END, ("fault", "line", len(GET))])
        self.assertEqual(reader.take(GET), [])
        self.assertEqual(reader.finish(), [])
        self.assertEqual(reader.octets_read, len(GET))

    def test_body_ahead_of_a_fault_is_told(self):
        row = put("transfer-encoding: chunked") + octets("3\r\nab")
        reader = Reader("ask")
        events = reader.take(row + octets("cX"))
        wanted = [put_head(("transfer-encoding", "chunked")), ("body", octets("abc")), ("fault", "chunk", len(row) + 1)]
        self.assertEqual(events, wanted)

    def test_last(self):
        self.tells(OLD, [OLD_HEAD, ("last",), END], True)
        self.tells(OLD + octets("\r"), [OLD_HEAD, ("last",), END, ("fault", "behind", len(OLD))])
        close = put("Connection: x, Close", "Content-Length: 1") + octets("a")
        head = put_head(("connection", "x, Close"), ("content-length", "1"))
        self.tells(close, [head, ("last",), ("body", (97,)), END], True)
        self.tells(close + GET, [head, ("last",), ("body", (97,)), END, ("fault", "behind", len(close))])

    def test_waits(self):
        head = put_head(("content-length", "1"), ("expect", "100-Continue"))
        row = put("content-length: 1", "expect: 100-Continue")
        self.tells(row + (5,), [head, ("waits",), ("body", (5,)), END])
        reader = Reader("ask")
        self.assertEqual(reader.take(row), [head, ("waits",)])
        close = put("content-length: 1", "expect: 100-continue", "connection: close")
        self.assertEqual([event[0] for event in told("ask", [close])], ["head", "waits", "last"])
        self.tells(put("expect: 100-continue"), [put_head(("expect", "100-continue")), END])

    def test_expect_is_not_for_this_side(self):
        reader = Reader("ask")
        with self.assertRaises(WrongUse) as caught:
            reader.expect("GET")
        self.assertEqual(caught.exception.word, "side")
        self.assertEqual(reader.take(GET), [GET_HEAD, END])


class ResponsesTest(unittest.TestCase):
    def tells(self, row, events, methods=("GET",), finish=False):
        self.assertEqual(told_alike(self, "reply", row, methods, finish), events)

    def test_one(self):
        self.tells(OK, OK_EVENTS)
        self.tells((), [], ("GET",), True)

    def test_several(self):
        head = octets("HTTP/1.1 200 \r\nContent-Length: 5\r\n\r\n")
        head_event = ("head", ("reply", 200, (("content-length", "5"),)))
        unchanged = octets("HTTP/1.1 304 \r\nTransfer-Encoding: chunked\r\n\r\n")
        unchanged_event = ("head", ("reply", 304, (("transfer-encoding", "chunked"),)))
        gone = octets("HTTP/1.1 204 \r\n\r\n")
        chunked = octets("HTTP/1.1 404 No\r\nTransfer-Encoding: chunked\r\n\r\n1\r\na\r\n0\r\nx: y\r\n\r\n")
        events = OK_EVENTS + [
            head_event, END, unchanged_event, END, ("head", ("reply", 204, ())), END,
            ("head", ("reply", 404, (("transfer-encoding", "chunked"),))), ("body", (97,)), ("end", (("x", "y"),)),
        ]
        methods = ("GET", "HEAD", "GET", "PUT", "GET")
        self.tells(OK + head + unchanged + gone + chunked, events, methods, True)

    def test_interim_responses(self):
        interim = octets("HTTP/1.1 100 Continue\r\nConnection: close\r\n\r\n")
        event = ("head", ("reply", 100, (("connection", "close"),)))
        old = octets("HTTP/1.0 199 \r\n\r\n")
        old_event = ("head", ("reply", 199, ()))
        self.tells(interim + old + OK, [event, END, old_event, END] + OK_EVENTS, ("GET",), True)
        self.tells(interim, [event, END], ("GET",), True)
        head = octets("HTTP/1.1 200 \r\nContent-Length: 9\r\n\r\n")
        head_event = ("head", ("reply", 200, (("content-length", "9"),)))
        self.tells(interim + head + OK, [event, END, head_event, END] + OK_EVENTS, ("HEAD", "GET"), True)

    def test_unasked(self):
        self.tells(OK, [("fault", "unasked", 0)], ())
        self.tells(OK + OK, OK_EVENTS + [("fault", "unasked", len(OK))])
        self.tells(OK + octets("\r"), OK_EVENTS + [("fault", "unasked", len(OK))])
        interim = octets("HTTP/1.1 100 \r\n\r\n")
        self.tells(interim, [("fault", "unasked", 0)], ())

    def test_expected_later(self):
        reader = Reader("reply")
        reader.expect("GET")
        self.assertEqual(reader.take(OK), OK_EVENTS)
        self.assertEqual(reader.take(()), [])
        reader.expect("GET")
        self.assertEqual(reader.take(OK), OK_EVENTS)
        self.assertEqual(reader.take(OK), [("fault", "unasked", 2 * len(OK))])

    def test_no_line_ends_ahead(self):
        self.tells(octets("\r\n"), [("fault", "line", 0)])

    def test_open_body(self):
        row = octets("HTTP/1.1 200 \r\na: b\r\n\r\n")
        head = ("head", ("reply", 200, (("a", "b"),)))
        self.tells(row, [head, ("last",)])
        self.tells(row, [head, ("last",), END], ("GET",), True)
        self.tells(row + OK, [head, ("last",), ("body", OK), END], ("GET", "GET"), True)
        many = (255,) * 100001
        events = told("reply", [row, many], ("GET",), True)
        self.assertEqual(events, [head, ("last",), ("body", many), END])

    def test_last(self):
        row = octets("HTTP/1.1 200 \r\ncontent-length: 1\r\nconnection: CLOSE\r\n\r\na")
        head = ("head", ("reply", 200, (("content-length", "1"), ("connection", "CLOSE"))))
        self.tells(row, [head, ("last",), ("body", (97,)), END], ("GET", "GET"), True)
        wanted = [head, ("last",), ("body", (97,)), END, ("fault", "behind", len(row))]
        self.tells(row + OK, wanted, ("GET", "GET"))
        self.tells(row + OK, wanted, ("GET",))
        old = octets("HTTP/1.0 304 \r\n\r\n")
        self.tells(old + old, [("head", ("reply", 304, ())), ("last",), END, ("fault", "behind", len(old))])

    def test_faults(self):
        for text, word in (
            ("HTTP/1.1 101", "line"), ("HTTP/1.1 6", "line"), ("HTTP/2", "line"), ("HTTP/1.1 200\r", "line"),
            ("HTTP/1.1 100 \r\ncontent-length:", "length"), ("HTTP/1.1 204 \r\ntransfer-encoding:", "coding"),
            ("HTTP/1.0 200 \r\ntransfer-encoding:", "coding"), ("HTTP/1.1 200 \r\n\n", "field"),
        ):
            events = told_alike(self, "reply", OK + octets(text), ("GET", "GET"))
            self.assertEqual(events, OK_EVENTS + [("fault", word, len(OK) + len(text) - 1)], text)


class FinishTest(unittest.TestCase):
    def cut(self, side, row, methods=("GET",)):
        methods = methods if side == "reply" else ()
        events = told(side, [row], methods, True)
        self.assertEqual(events[-1], ("fault", "cut", len(row)), row[-20:])

    def quiet(self, side, row, methods=()):
        reader = new_reader(side, methods)
        reader.take(row)
        self.assertEqual(reader.finish(), [])
        self.assertEqual(reader.take(row), [])
        self.assertEqual(reader.finish(), [])
        self.assertEqual(reader.octets_read, len(row))

    def test_no_message_begun(self):
        self.quiet("ask", ())
        self.quiet("ask", octets("\r\n"))
        self.quiet("ask", octets("\r\n\r\n"))
        self.quiet("ask", GET)
        self.quiet("ask", GET + octets("\r\n"))
        self.quiet("ask", OLD)
        self.quiet("reply", ())
        self.quiet("reply", (), ("GET",))
        self.quiet("reply", OK, ("GET", "GET"))
        self.quiet("reply", octets("HTTP/1.1 100 \r\n\r\n"), ("GET",))

    def test_each_place_within_a_request(self):
        rows = (GET, put("content-length: 3") + octets("abc"),
                put("transfer-encoding: chunked") + octets("2;x\r\nab\r\n0\r\na: b\r\n\r\n"))
        for row in rows:
            for at in range(1, len(row)):
                self.cut("ask", row[:at])
                self.cut("ask", GET + octets("\r\n") + row[:at])

    def test_an_octet_13_alone_begins_a_message(self):
        self.cut("ask", octets("\r"))
        self.cut("ask", octets("\r\n\r"))
        self.cut("ask", GET + octets("\r"))

    def test_each_place_within_a_response(self):
        for at in range(1, len(OK)):
            self.cut("reply", OK[:at])
            self.cut("reply", OK + OK[:at], ("GET", "GET"))

    def test_open_body(self):
        reader = new_reader("reply", ("GET",))
        reader.take(octets("HTTP/1.1 200 \r\n\r\nab"))
        self.assertEqual(reader.finish(), [END])
        self.assertEqual(reader.finish(), [])
        self.assertEqual(reader.take(octets("c")), [])


class OctetsReadTest(unittest.TestCase):
    def test_counts_all_octets(self):
        reader = Reader("ask")
        self.assertEqual(reader.octets_read, 0)
        reader.take(GET[:5])
        self.assertEqual(reader.octets_read, 5)
        reader.take(GET[5:] + GET)
        self.assertEqual(reader.octets_read, 2 * len(GET))
        reader.take(())
        self.assertEqual(reader.octets_read, 2 * len(GET))

    def test_up_to_a_fault(self):
        for row in (octets("GET \x00"), OLD + GET):
            reader = Reader("ask")
            at = reader.take(row)[-1][2]
            self.assertEqual(reader.octets_read, at)
            reader.take(GET)
            self.assertEqual(reader.octets_read, at)

    def test_a_fault_of_the_end(self):
        reader = Reader("ask")
        reader.take(GET[:7])
        self.assertEqual(reader.finish(), [("fault", "cut", 7)])
        self.assertEqual(reader.octets_read, 7)

    def test_pieces_are_not_changed(self):
        piece = list(GET)
        reader = Reader("ask")
        first = reader.take(piece)
        self.assertEqual(tuple(piece), GET)
        first.append("x")
        self.assertEqual(reader.take(piece), [GET_HEAD, END])


if __name__ == "__main__":
    unittest.main()
