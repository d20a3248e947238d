"""The house: first steps, choice, conditions, changes, and the fields of each answer. test_house_reading.py has the ranges."""

import unittest

from support import octets

from ownanswer.dates import write_date
from ownanswer.house import House

NOW = 1488603967
HOST = ("host", "h")
DATE = ("date", "Sat, 04 Mar 2017 05:06:07 GMT")
ALLOW = ("allow", "GET, HEAD, PUT, DELETE, POST, OPTIONS")
METHODS = ("GET", "HEAD", "PUT", "DELETE", "POST", "OPTIONS")
TIME = write_date(1000)

PLAIN = ("text/plain", "", (104, 105), "x", 1000)
GERMAN = ("text/html", "de", (1, 2, 3), "y", 2000)
PAGE = (octets("/a"), 60, (PLAIN,))
BOTH = (octets("/b"), -2, (PLAIN, GERMAN))
PUT_PLAIN = ("content-type", "text/plain")

STATE = (("etag", '"x"'), ("last-modified", TIME))
COPIES = (("cache-control", "max-age=60"), ("accept-ranges", "bytes"))


def request(method, target, *fields, body=()):
    return (method, octets(target), fields, body, ())


def asked(house, method, target, *fields, body=(), now=NOW):
    """The answer to a request with a Host field."""
    return house.answer(request(method, target, HOST, *fields, body=body), now)


def empty(status, *fields):
    return (status, (DATE,) + fields, (), ())


class FirstStepsTest(unittest.TestCase):
    def setUp(self):
        self.house = House((PAGE, BOTH))

    def is_answered(self, wanted, *rows):
        for row in rows:
            self.assertEqual(self.house.answer(row, NOW), wanted, row)
        self.assertEqual(self.house.changes(), 0)

    def test_methods(self):
        for method in ("CONNECT", "TRACE", "PATCH", "get", "Get", "BREW", "GETS", "OPTION"):
            # Nothing else is looked at: not the target, not the host.
            for target in ("/a", "x", "*", "h:80", "/%"):
                self.is_answered(empty(501, ALLOW), request(method, target), request(method, target, HOST, HOST))

    def test_targets(self):
        for method in METHODS:
            for target in ("a", "/%", "/%4", "/%zz", "/a#b", "/a?%", "http:/h/a", "http://", "http:///a", "http://h:0/a", "http://h:99999/a",
                           "https://h/a", "h:80", "/a?b#c", "http://h_/a"):
                self.is_answered(empty(400), request(method, target, HOST))
            if method != "OPTIONS":
                self.is_answered(empty(400), request(method, "*", HOST))

    def test_hosts(self):
        for method in METHODS:
            wrong = [(), (HOST, HOST), (HOST, ("host", "i")), (("host", ""),), (("host", "h:0"),), (("host", "h "),), (("host", "[::1]"),),
                     (("host", "h:"),), (("host", "h,i"),), (("host", "h:65536"),)]
            for fields in wrong:
                self.is_answered(empty(400), request(method, "/a", *fields))
                self.is_answered(empty(400), request("OPTIONS", "*", *fields))

    def test_an_absolute_target_wants_no_host(self):
        for fields in ((), (HOST, HOST), (("host", "?"),)):
            self.assertEqual(self.house.answer(request("GET", "http://h/a", *fields), NOW)[0], 200)
            self.assertEqual(self.house.answer(request("GET", "HTTP://other:81/a?b", *fields), NOW)[0], 200)
            self.is_answered(empty(204, ALLOW), request("OPTIONS", "http://h/a", *fields))

    def test_options(self):
        for target in ("*", "/a", "/missing", "/a?b", "http://h", "/a/../a"):
            self.is_answered(empty(204, ALLOW), request("OPTIONS", target, HOST), request("OPTIONS", target, ("host", "x:1")))
            # The conditions and the choice come later.
            self.is_answered(empty(204, ALLOW), request("OPTIONS", target, HOST, ("if-match", '"y"'), ("accept", "no/kind"), body=(1,)))

    def test_the_order(self):
        self.is_answered(empty(501, ALLOW), request("TRACE", "/%"))
        self.is_answered(empty(400), request("OPTIONS", "/%"), request("OPTIONS", "*"), request("OPTIONS", "/a"))

    def test_the_page_is_that_of_the_clean_path(self):
        for target in ("/a", "/a?", "/a?b=c", "/./a", "/x/../a", "/%61", "//../a", "http://h/a", "http://other:81/%61?x", "/../a"):
            self.assertEqual(asked(self.house, "GET", target)[0], 200, target)
        for target in ("/", "/A", "/a/", "//a", "/a/.", "/aa", "/a;b", "http://h", "http://h?/a", "/%2Fa"):
            self.assertEqual(asked(self.house, "GET", target), empty(404), target)

    def test_the_root(self):
        house = House([(octets("/"), 0, (PLAIN,))])
        for target in ("/", "http://h", "http://h?x", "/.", "/a/..", "/..", "http://h/"):
            self.assertEqual(asked(house, "GET", target)[0], 200, target)

    def test_a_path_with_codes(self):
        house = House([(octets("/%2F"), 0, (PLAIN,))])
        self.assertEqual(asked(house, "GET", "/%2f")[0], 200)
        self.assertEqual(asked(house, "GET", "//")[0], 404)


class ChoiceTest(unittest.TestCase):
    def test_the_variant_is_chosen(self):
        for fields, wanted in (((), (104, 105)), ((("accept", "text/html"),), (1, 2, 3)), ((("accept", "text/plain"),), (104, 105)),
                               ((("accept-language", "de"),), (104, 105)), ((("accept", "text/html, text/plain;q=0.9"),), (1, 2, 3)),
                               ((("accept", "text/plain;q=0.5"), ("accept", "text/html")), (1, 2, 3))):
            self.assertEqual(asked(House((BOTH,)), "GET", "/b", *fields)[2], wanted, fields)
            self.assertEqual(asked(House((BOTH,)), "HEAD", "/b", *fields)[2], ())

    def test_none_is_acceptable(self):
        for method in ("GET", "HEAD", "DELETE", "POST"):
            for field in (("accept", "text/css"), ("accept", "*/*;q=0"), ("accept", "")):
                house = House((BOTH,))
                # This comes ahead of the conditions.
                for others in ((), (("if-match", '"no"'),), (("if-none-match", "*"),)):
                    self.assertEqual(asked(house, method, "/b", field, *others, body=(1,) * 20001), empty(406))
                self.assertEqual(house.pages(), (BOTH,))
        house = House(((octets("/b"), 0, (GERMAN,)),))
        self.assertEqual(asked(house, "GET", "/b", ("accept-language", "en")), empty(406))

    def test_without_a_page_there_is_no_choice(self):
        for method in ("GET", "HEAD", "DELETE", "POST"):
            self.assertEqual(asked(House(()), method, "/b", ("accept", "no/kind")), empty(404))

    def test_a_put_does_not_look_at_what_is_accepted(self):
        house = House((BOTH,))
        self.assertEqual(asked(house, "PUT", "/b", PUT_PLAIN, ("accept", "no/kind"), ("accept-language", "xx"))[0], 204)

    def test_the_offer_of_a_put(self):
        for fields in (
            (), (PUT_PLAIN, PUT_PLAIN), (("content-type", ""),), (("content-type", "text"),), (("content-type", "Text/plain"),),
            (("content-type", "text/plain;a=b"),), (("content-type", "text/plain; a=b"),), (("content-type", "text/plain;"),),
            (("content-type", "a/b, c/d"),), (("content-type", "text/pl ain"),), (("content-type", "a/b/c"),), (("content-language", "de"),),
            (PUT_PLAIN, ("content-language", "de"), ("content-language", "de")), (PUT_PLAIN, ("content-language", "DE")),
            (PUT_PLAIN, ("content-language", "de, en")), (PUT_PLAIN, ("content-language", "de-")), (PUT_PLAIN, ("content-language", "d e")),
            (PUT_PLAIN, ("content-language", ""), ("content-language", "")),
        ):
            for target in ("/a", "/new"):
                house = House((PAGE,))
                # This comes ahead of the conditions and of the bound.
                for others in ((), (("if-match", '"no"'),), (("if-none-match", "*"),)):
                    self.assertEqual(asked(house, "PUT", target, *fields, *others, body=(1,) * 20001), empty(415), fields)
                self.assertEqual((house.pages(), house.changes()), ((PAGE,), 0))

    def test_languages_of_a_put(self):
        for fields, language in (((), ""), ((("content-language", ""),), ""), ((("content-language", "de"),), "de"),
                                 ((("content-language", "en-us"),), "en-us")):
            house = House(())
            self.assertEqual(asked(house, "PUT", "/n", PUT_PLAIN, *fields, body=(7,))[0], 201)
            self.assertEqual(house.pages(), ((octets("/n"), -2, (("text/plain", language, (7,), "v1", NOW),)),))


class ConditionsTest(unittest.TestCase):
    def test_failed(self):
        for method in ("GET", "HEAD", "DELETE", "POST", "PUT"):
            for fields in ((("if-match", '"y"'),), (("if-match", 'W/"x"'),), (("if-match", "?"),), (("if-unmodified-since", write_date(999)),)):
                house = House((PAGE,))
                self.assertEqual(asked(house, method, "/a", PUT_PLAIN, *fields, body=(1,)), empty(412), (method, fields))
                self.assertEqual((house.pages(), house.changes()), ((PAGE,), 0))

    def test_known(self):
        for fields in ((("if-none-match", "*"),), (("if-none-match", 'W/"x"'),), (("if-none-match", '"y", "x"'),)):
            for method in ("GET", "HEAD"):
                self.assertEqual(asked(House((PAGE,)), method, "/a", *fields), empty(304, *STATE, *COPIES))
            for method in ("DELETE", "POST", "PUT"):
                house = House((PAGE,))
                self.assertEqual(asked(house, method, "/a", PUT_PLAIN, *fields), empty(412))
                self.assertEqual(house.pages(), (PAGE,))

    def test_known_by_date(self):
        for method in ("GET", "HEAD"):
            self.assertEqual(asked(House((PAGE,)), method, "/a", ("if-modified-since", TIME)), empty(304, *STATE, *COPIES))
            self.assertEqual(asked(House((PAGE,)), method, "/a", ("if-modified-since", write_date(999)))[0], 200)
        self.assertEqual(asked(House((PAGE,)), "POST", "/a", ("if-modified-since", TIME))[0], 204)

    def test_the_fields_of_304(self):
        state = (("etag", '"y"'), ("last-modified", write_date(2000)))
        answer = asked(House((BOTH,)), "GET", "/b", ("accept", "text/html"), ("if-none-match", '"y"'))
        self.assertEqual(answer, empty(304, *state, ("cache-control", "no-cache"), ("vary", "accept, accept-language"), ("accept-ranges", "bytes")))

    def test_the_conditions_are_about_the_chosen_variant(self):
        for accept, tag in (("text/plain", '"x"'), ("text/html", '"y"')):
            for method, status in (("GET", 304), ("HEAD", 304), ("DELETE", 412), ("POST", 412)):
                self.assertEqual(asked(House((BOTH,)), method, "/b", ("accept", accept), ("if-none-match", tag))[0], status)
            other = '"y"' if tag == '"x"' else '"x"'
            for method in ("GET", "HEAD", "DELETE", "POST"):
                self.assertEqual(asked(House((BOTH,)), method, "/b", ("accept", accept), ("if-match", other))[0], 412)

    def test_without_a_page(self):
        for method in ("GET", "HEAD", "DELETE", "POST"):
            for value in ("*", '"x"', "?"):
                self.assertEqual(asked(House(()), method, "/a", ("if-match", value)), empty(412))
            for field in (("if-none-match", "*"), ("if-modified-since", TIME), ("if-unmodified-since", TIME)):
                self.assertEqual(asked(House(()), method, "/a", field), empty(404))

    def test_a_put_without_a_variant(self):
        offer = (PUT_PLAIN, ("content-language", "en"))
        for target in ("/a", "/new"):
            for value in ("*", '"x"'):
                house = House((PAGE,))
                self.assertEqual(asked(house, "PUT", target, *offer, ("if-match", value)), empty(412))
                self.assertEqual(house.pages(), (PAGE,))
            for field in (("if-none-match", "*"), ("if-none-match", '"x"'), ("if-unmodified-since", write_date(0))):
                self.assertEqual(asked(House((PAGE,)), "PUT", target, *offer, field)[0], 201)

    def test_a_put_with_the_variant(self):
        html = (("content-type", "text/html"), ("content-language", "de"))
        for field, status in ((("if-match", '"y"'), 204), (("if-match", '"x"'), 412), (("if-none-match", '"x"'), 204),
                              (("if-none-match", '"y"'), 412), (("if-unmodified-since", write_date(2000)), 204),
                              (("if-unmodified-since", write_date(1999)), 412)):
            self.assertEqual(asked(House((BOTH,)), "PUT", "/b", *html, field)[0], status, field)


class ChangesTest(unittest.TestCase):
    def test_delete(self):
        house = House((PAGE, BOTH))
        self.assertEqual(asked(house, "DELETE", "/a"), empty(204))
        self.assertEqual((house.pages(), house.changes()), ((BOTH,), 0))
        self.assertEqual(asked(house, "DELETE", "/a"), empty(404))
        self.assertEqual(asked(house, "GET", "/a"), empty(404))
        # All variants go, whichever is chosen.
        self.assertEqual(asked(house, "DELETE", "/b", ("accept", "text/html")), empty(204))
        self.assertEqual(house.pages(), ())

    def test_post(self):
        house = House((PAGE, BOTH))
        now = NOW + 5
        answer = asked(house, "POST", "/b", ("accept", "text/html"), body=(9, 9), now=now)
        self.assertEqual(answer, (204, (("date", write_date(now)), ("etag", '"v1"'), ("last-modified", write_date(now))), (), ()))
        changed = ("text/html", "de", (1, 2, 3, 9, 9), "v1", now)
        self.assertEqual(house.pages(), (PAGE, (octets("/b"), -2, (PLAIN, changed))))
        self.assertEqual(asked(house, "POST", "/a", body=())[1][1], ("etag", '"v2"'))
        self.assertEqual(house.pages()[0][2], (("text/plain", "", (104, 105), "v2", NOW),))
        self.assertEqual(house.changes(), 2)
        self.assertEqual(asked(house, "POST", "/c", body=(1,)), empty(404))
        self.assertEqual(house.changes(), 2)

    def test_put_changes_a_variant(self):
        house = House((BOTH,))
        answer = asked(house, "PUT", "/b", PUT_PLAIN, body=(7,))
        self.assertEqual(answer, empty(204, ("etag", '"v1"'), ("last-modified", DATE[1])))
        self.assertEqual(house.pages(), ((octets("/b"), -2, (("text/plain", "", (7,), "v1", NOW), GERMAN)),))

    def test_put_adds_a_variant(self):
        house = House((PAGE,))
        answer = asked(house, "PUT", "/a", ("content-language", "en"), PUT_PLAIN, body=(7,))
        self.assertEqual(answer, empty(201, ("etag", '"v1"'), ("last-modified", DATE[1])))
        # The page keeps its keep, and the variant stands behind the others.
        self.assertEqual(house.pages(), ((octets("/a"), 60, (PLAIN, ("text/plain", "en", (7,), "v1", NOW))),))
        self.assertEqual(dict(asked(house, "GET", "/a")[1])["vary"], "accept, accept-language")

    def test_put_adds_a_page(self):
        house = House((BOTH,))
        answer = asked(house, "PUT", "/x/../n?q", PUT_PLAIN, body=(7,))
        self.assertEqual(answer, empty(201, ("etag", '"v1"'), ("last-modified", DATE[1])))
        self.assertEqual(house.pages(), (BOTH, (octets("/n"), -2, (("text/plain", "", (7,), "v1", NOW),))))
        self.assertEqual(asked(house, "GET", "/n")[1:3], (
            (DATE, ("etag", '"v1"'), ("last-modified", DATE[1]), ("cache-control", "no-cache"), ("accept-ranges", "bytes"), PUT_PLAIN), (7,)))

    def test_the_numbers_of_changes(self):
        house = House((PAGE,))
        self.assertEqual(house.changes(), 0)
        rows = (("PUT", "/n", 201, 1), ("GET", "/n", 200, 1), ("POST", "/n", 204, 2), ("DELETE", "/n", 204, 2), ("PUT", "/n", 201, 3),
                ("PUT", "/n", 204, 4), ("POST", "/missing", 404, 4), ("OPTIONS", "/n", 204, 4), ("HEAD", "/n", 200, 4), ("POST", "/a", 204, 5))
        for method, target, status, changes in rows:
            self.assertEqual(asked(house, method, target, PUT_PLAIN, body=(1,))[0], status, (method, target))
            self.assertEqual(house.changes(), changes)
        self.assertEqual([page[2][0][3] for page in house.pages()], ["v5", "v4"])

    def test_the_bound_of_a_body(self):
        for size, status in ((19999, 201), (20000, 201), (20001, 413), (99999, 413)):
            house = House(())
            self.assertEqual(asked(house, "PUT", "/n", PUT_PLAIN, body=(1,) * size)[0], status, size)
            self.assertEqual(house.changes(), 0 if status == 413 else 1)
            self.assertEqual(len(house.pages()), 0 if status == 413 else 1)
        for size, status in ((19998, 204), (19999, 413)):
            house = House((PAGE,))
            self.assertEqual(asked(house, "POST", "/a", body=(1,) * size)[0], status, size)
            self.assertEqual(len(house.pages()[0][2][0][2]), 20000 if status == 204 else 2)
        house = House((PAGE,))
        self.assertEqual(asked(house, "PUT", "/a", PUT_PLAIN, body=(1,) * 20001), empty(413))
        self.assertEqual((house.pages(), house.changes()), ((PAGE,), 0))

    def test_the_bound_comes_behind_the_conditions(self):
        for method in ("PUT", "POST"):
            for field in (("if-match", '"y"'), ("if-none-match", "*")):
                self.assertEqual(asked(House((PAGE,)), method, "/a", PUT_PLAIN, field, body=(1,) * 20001), empty(412))
        self.assertEqual(asked(House(()), "POST", "/a", body=(1,) * 20001), empty(404))

    def test_a_page_with_a_long_body(self):
        long = (octets("/l"), 0, (("a/b", "", (1,) * 20001, "x", 0),))
        self.assertEqual(len(asked(House((long,)), "GET", "/l")[2]), 20001)
        self.assertEqual(asked(House((long,)), "POST", "/l"), empty(413))
        self.assertEqual(asked(House((long,)), "PUT", "/l", ("content-type", "a/b"), body=(1,))[0], 204)

    def test_a_put_of_a_part(self):
        for fields in ((("content-range", "bytes 0-0/1"),), (("content-range", ""),), (("content-range", "x"),) * 2):
            for others in ((), (PUT_PLAIN,), (PUT_PLAIN, ("if-match", '"y"'))):
                for target in ("/a", "/new"):
                    house = House((PAGE,))
                    self.assertEqual(asked(house, "PUT", target, *fields, *others, body=(1,)), empty(400))
                    self.assertEqual(house.pages(), (PAGE,))
        # In other requests the field is nothing, and the first steps come first.
        for method, status in (("GET", 200), ("HEAD", 200), ("POST", 204), ("DELETE", 204)):
            self.assertEqual(asked(House((PAGE,)), method, "/a", ("content-range", "bytes 0-0/1"))[0], status)
        self.assertEqual(asked(House(()), "OPTIONS", "/a", ("content-range", "x"))[0], 204)


class PagesTest(unittest.TestCase):
    def test_ascending(self):
        rows = [(octets(path), 0, (PLAIN,)) for path in ("/b", "/", "/a/b", "/a", "/B", "/a-b")]
        paths = [octets(path) for path in ("/", "/B", "/a", "/a-b", "/a/b", "/b")]
        self.assertEqual([page[0] for page in House(rows).pages()], paths)
        house = House(tuple(rows))
        asked(house, "PUT", "/A", PUT_PLAIN)
        self.assertEqual([page[0] for page in house.pages()], paths[:1] + [octets("/A")] + paths[1:])
        self.assertEqual(House(()).pages(), ())

    def test_what_was_handed_in_or_out_stays(self):
        given = [BOTH, PAGE]
        house = House(given)
        earlier = house.pages()
        self.assertIsInstance(earlier, tuple)
        asked(house, "POST", "/a", body=(1,))
        asked(house, "PUT", "/n", PUT_PLAIN)
        asked(house, "DELETE", "/b")
        self.assertEqual(given, [BOTH, PAGE])
        self.assertEqual(earlier, (PAGE, BOTH))
        given.clear()
        self.assertEqual(len(house.pages()), 2)

    def test_houses_are_apart(self):
        one, two = House((PAGE,)), House((PAGE,))
        asked(one, "DELETE", "/a")
        self.assertEqual((one.pages(), two.pages()), ((), (PAGE,)))


if __name__ == "__main__":
    unittest.main()
