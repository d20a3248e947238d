"""Plain forms and plain runs ([11.1], [11.6])."""

import unittest

from support import octets

from ownanswer.house import House
from ownanswer.plain import plain_request, plain_response, plain_run

GONE = ("content-length", "transfer-encoding", "connection", "keep-alive", "proxy-connection", "upgrade", "te")


class RequestTest(unittest.TestCase):
    def plain(self, *fields):
        method, target, found, body, trailers = plain_request(("PUT", octets("/a"), fields, (1, 2), (("t", "v"),)))
        self.assertEqual((method, target, body, trailers), ("PUT", octets("/a"), (1, 2), ()))
        return found

    def test_fields_that_are_left_out(self):
        for name in GONE:
            self.assertEqual(self.plain((name, "x"), ("a", "1"), (name, "trailers"), ("b", "2")), (("a", "1"), ("b", "2")), name)
        for name in ("trailer", "expect", "tea", "content-type", "content-range"):
            self.assertEqual(self.plain((name, "x")), ((name, "x"),))

    def test_host_stands_in_front(self):
        self.assertEqual(self.plain(("a", "1"), ("host", "h"), ("b", "2")), (("host", "h"), ("a", "1"), ("b", "2")))
        self.assertEqual(self.plain(("a", "1"), ("host", "h"), ("b", "2"), ("host", "i")), (("host", "h"), ("host", "i"), ("a", "1"), ("b", "2")))
        self.assertEqual(self.plain(("host", "h"), ("a", "1")), (("host", "h"), ("a", "1")))
        self.assertEqual(self.plain(), ())

    def test_twice_is_once(self):
        one = plain_request(("GET", octets("/"), (("te", "x"), ("a", "1"), ("host", "h")), (), (("t", "v"),)))
        self.assertEqual(plain_request(one), one)


class ResponseTest(unittest.TestCase):
    def plain(self, *fields, status=200, method="GET"):
        found = plain_response((status, fields, (1, 2), (("t", "v"),)), method)
        self.assertEqual((found[0], found[3]), (status, ()))
        return found[1:3]

    def test_fields_that_are_left_out(self):
        for name in GONE:
            self.assertEqual(self.plain((name, "x"), ("a", "1"), (name, "y"), ("b", "2")), ((("a", "1"), ("b", "2")), (1, 2)), name)

    def test_host_stays_where_it_is(self):
        self.assertEqual(self.plain(("a", "1"), ("host", "h"))[0], (("a", "1"), ("host", "h")))

    def test_bodies(self):
        for status, method, stays in ((200, "GET", True), (200, "HEAD", False), (404, "HEAD", False), (204, "GET", False), (304, "GET", False), (205, "GET", True),
                                      (200, "head", True), (206, "PUT", True), (204, "HEAD", False), (303, "POST", True)):
            self.assertEqual(self.plain(status=status, method=method)[1], (1, 2) if stays else (), (status, method))


class RunTest(unittest.TestCase):
    PAGES = ((octets("/a"), 60, (("text/plain", "", octets("hi"), "x", 0),)),)

    def test_one_behind_the_other(self):
        host = ("host", "h")
        steps = (
            (("GET", octets("/a"), (host,), (), ()), 5),
            (("PUT", octets("/a"), (("te", "x"), ("content-type", "text/plain"), host), octets("new"), (("t", "v"),)), 6),
            (("HEAD", octets("/a"), (host, ("connection", "close")), (), ()), 7),
            (("GET", octets("/a"), (), (), ()), 8),
            (("GET", octets("/a"), (host, ("if-none-match", '"v1"')), (), ()), 9),
        )
        house = House(self.PAGES)
        wanted = [plain_response(house.answer(plain_request(request), now), request[0]) for request, now in steps]
        found = plain_run(self.PAGES, steps)
        self.assertIsInstance(found, list)
        self.assertEqual(found, wanted)
        self.assertEqual([response[0] for response in found], [200, 204, 200, 400, 304])
        # Each run has a house of its own.
        self.assertEqual(plain_run(self.PAGES, steps), wanted)
        self.assertEqual(plain_run(self.PAGES, ()), [])


if __name__ == "__main__":
    unittest.main()
