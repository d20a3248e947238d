import random
import unittest

from ownanswer.writer import write_request, write_response
from support import lines, octets, string, told_alike

TARGET = octets("/a?b")
HOST = (("host", "h"),)


def request(fields=HOST, body=(), trailers=(), method="PUT"):
    return (method, TARGET, fields, body, trailers)


class RequestsTest(unittest.TestCase):
    def writes(self, message, sizes, text):
        self.assertEqual(string(write_request(message, sizes)), text)

    def test_without_sizes(self):
        self.writes(request(), None, "PUT /a?b HTTP/1.1\r\nhost: h\r\n\r\n")
        fields = HOST + (("a", "1"), ("b", ""), ("a", "2 3"))
        text = "PUT /a?b HTTP/1.1\r\nhost: h\r\na: 1\r\nb: \r\na: 2 3\r\ncontent-length: 3\r\n\r\nxyz"
        self.writes(request(fields, octets("xyz")), None, text)
        self.writes(request((), (), (), "GET"), None, "GET /a?b HTTP/1.1\r\n\r\n")
        self.writes(request(HOST, octets("x"), (), "HEAD"), None,
                    "HEAD /a?b HTTP/1.1\r\nhost: h\r\ncontent-length: 1\r\n\r\nx")

    def test_trailers_are_left_out_without_sizes(self):
        self.writes(request(HOST, (), (("t", "v"),)), None, "PUT /a?b HTTP/1.1\r\nhost: h\r\n\r\n")
        text = "PUT /a?b HTTP/1.1\r\nhost: h\r\ncontent-length: 1\r\n\r\nx"
        self.writes(request(HOST, octets("x"), (("t", "v"),)), None, text)

    def test_with_sizes(self):
        text = "PUT /a?b HTTP/1.1\r\nhost: h\r\ntransfer-encoding: chunked\r\n\r\n"
        self.writes(request(), (5,), text + "0\r\n\r\n")
        self.writes(request(HOST, octets("abcdef")), (4, 1), text + "4\r\nabcd\r\n1\r\ne\r\n1\r\nf\r\n0\r\n\r\n")
        self.writes(request(HOST, (), (("t", "v"), ("u", ""))), (1,), text + "0\r\nt: v\r\nu: \r\n\r\n")
        long = "c\r\nabcdefghijkl\r\n0\r\n\r\n"
        self.writes(request(HOST, octets("abcdefghijkl")), (65535,), text + long)

    def test_fields_of_sizes_are_taken_out(self):
        fields = (("content-length", "9"), ("a", "1"), ("transfer-encoding", "chunked"), ("host", "h"),
                  ("content-length", "8"))
        self.writes(request(fields), None, "PUT /a?b HTTP/1.1\r\na: 1\r\nhost: h\r\n\r\n")
        text = "PUT /a?b HTTP/1.1\r\na: 1\r\nhost: h\r\ntransfer-encoding: chunked\r\n\r\n0\r\n\r\n"
        self.writes(request(fields), (3,), text)


class ResponsesTest(unittest.TestCase):
    def writes(self, message, method, sizes, text):
        self.assertEqual(string(write_response(message, method, sizes)), text)

    def test_ordinary(self):
        self.writes((200, (("a", "b"),), octets("xy"), ()), "GET", None,
                    "HTTP/1.1 200 \r\na: b\r\ncontent-length: 2\r\n\r\nxy")
        self.writes((404, (), (), (("t", "v"),)), "GET", None, "HTTP/1.1 404 \r\ncontent-length: 0\r\n\r\n")
        text = "HTTP/1.1 200 \r\na: b\r\ntransfer-encoding: chunked\r\n\r\n"
        self.writes((200, (("a", "b"),), octets("xyz"), (("t", "v"),)), "PUT", (2,),
                    text + "2\r\nxy\r\n1\r\nz\r\n0\r\nt: v\r\n\r\n")
        self.writes((200, (("a", "b"),), (), ()), "PUT", (2,), text + "0\r\n\r\n")

    def test_head_and_304(self):
        for status, method in ((200, "HEAD"), (404, "HEAD"), (304, "GET"), (304, "HEAD")):
            for body in ((), octets("xyz")):
                line = f"HTTP/1.1 {status} \r\na: b\r\n"
                message = (status, (("a", "b"),), body, (("t", "v"),))
                self.writes(message, method, None, line + f"content-length: {len(body)}\r\n\r\n")
                self.writes(message, method, (2,), line + "transfer-encoding: chunked\r\n\r\n")

    def test_statuses_without_size(self):
        for status in (100, 103, 199, 204):
            for method in ("GET", "HEAD"):
                for sizes in (None, (5,)):
                    fields = (("content-length", "3"), ("a", "b"), ("transfer-encoding", "chunked"))
                    message = (status, fields, octets("xyz"), (("t", "v"),))
                    self.writes(message, method, sizes, f"HTTP/1.1 {status} \r\na: b\r\n\r\n")

    def test_fields_of_sizes_are_taken_out(self):
        fields = (("transfer-encoding", "gzip"), ("a", "1"), ("content-length", "7"))
        self.writes((200, fields, octets("x"), ()), "GET", None,
                    "HTTP/1.1 200 \r\na: 1\r\ncontent-length: 1\r\n\r\nx")
        self.writes((200, fields, octets("x"), ()), "HEAD", None, "HTTP/1.1 200 \r\na: 1\r\ncontent-length: 1\r\n\r\n")

    def test_nothing_handed_in_is_changed(self):
        fields, body, sizes = [("content-length", "3")], [1, 2], [1]
        write_response((200, fields, body, ()), "GET", sizes)
        write_request(("GET", TARGET, fields, body, ()), sizes)
        self.assertEqual((fields, body, sizes), ([("content-length", "3")], [1, 2], [1]))


class ReadBackTest(unittest.TestCase):
    """What is written is read, in one piece and in others."""

    def body(self, chance):
        return tuple(chance.randrange(256) for _ in range(chance.choice((0, 0, 1, 2, 40, 500))))

    def fields(self, chance, name):
        names = ("a", "b", name, "x-~!", "n" * 40)
        texts = ("", "v", "a \t b", "~!$&", "v" * 999)
        return tuple((chance.choice(names), chance.choice(texts)) for _ in range(chance.randrange(5)))

    def sizes(self, chance):
        return chance.choice((None, (1,), (3, 1, 2), (16,), (65535,), (7, 300)))

    def events(self, head, fields, body, sizes, trailers, always):
        added = () if sizes is None and not body and not always else (("content-length", str(len(body))),)
        if sizes is not None:
            added = (("transfer-encoding", "chunked"),)
        found = [("head", head + (fields + added,))]
        if body:
            found.append(("body", body))
        return found + [("end", () if sizes is None else trailers)]

    def test_requests(self):
        chance = random.Random(29)
        for _ in range(150):
            row = ()
            wanted = []
            for _ in range(chance.randrange(1, 4)):
                fields = self.fields(chance, "c") + (("host", chance.choice(("", "h:80"))),) + self.fields(chance, "d")
                body, trailers, sizes = self.body(chance), self.fields(chance, "t"), self.sizes(chance)
                row += write_request(("M" * 20, TARGET, fields, body, trailers), sizes)
                wanted += self.events(("ask", "M" * 20, TARGET), fields, body, sizes, trailers, False)
            self.assertEqual(told_alike(self, "ask", row), wanted)

    def test_responses(self):
        chance = random.Random(30)
        for _ in range(150):
            row = ()
            wanted = []
            methods = []
            for _ in range(chance.randrange(1, 4)):
                status = chance.choice((200, 404, 599, 204, 304, 100, 199))
                method = chance.choice(("GET", "HEAD")) if not methods or status >= 200 else methods[-1]
                fields = self.fields(chance, "host")
                body, trailers, sizes = self.body(chance), self.fields(chance, "t"), self.sizes(chance)
                row += write_response((status, fields, body, trailers), method, sizes)
                whole = self.events(("reply", status), fields, body, sizes, trailers, True)
                if status < 200 or status == 204:
                    whole = [("head", ("reply", status, fields)), ("end", ())]
                elif method == "HEAD" or status == 304:
                    whole = [whole[0], ("end", ())]
                wanted += whole
                if status >= 200:
                    methods.append(method)
                else:
                    row += write_response((204, (), (), ()), method, None)
                    wanted += [("head", ("reply", 204, ())), ("end", ())]
                    methods.append(method)
            self.assertEqual(told_alike(self, "reply", row, methods), wanted)

    def test_greatest_message(self):
        target = tuple(33 + at % 94 for at in range(1000))
        body = tuple(at % 256 for at in range(99999))
        row = write_request(("GET", target, HOST, body, (("t", "v"),)), (65535, 9))
        events = told_alike(self, "ask", row)
        head = ("ask", "GET", target, HOST + (("transfer-encoding", "chunked"),))
        self.assertEqual(events, [("head", head), ("body", body), ("end", (("t", "v"),))])

    def test_lines_helper(self):
        self.assertEqual(lines("a: b"), octets("a: b\r\n\r\n"))


if __name__ == "__main__":
    unittest.main()
