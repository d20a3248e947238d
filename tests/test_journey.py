"""Journeys ([11.2] to [11.4], [0.1])."""

import random
import unittest

from support import octets

from ownanswer.client1 import Client1
from ownanswer.client2 import Client2
from ownanswer.errors import WrongUse
from ownanswer.house import House
from ownanswer.journey import Journey, ends
from ownanswer.keeper import Told
from ownanswer.plain import plain_request, plain_response, plain_run
from ownanswer.server1 import Server1
from ownanswer.server2 import Server2

HOST = ("host", "h")
PAGES = (
    (octets("/a"), 60, (("text/plain", "", octets("hello"), "x", 0),)),
    (octets("/b"), -2, (("text/plain", "en", octets("b" * 3000), "y", 5), ("text/html", "de", (0, 255, 10, 13) * 500, "z", 6))),
)


def ask(target="/a", *fields, method="GET", body=()):
    return (method, octets(target), (HOST,) + fields, tuple(body), ())


def random_request(chance):
    method = chance.choice(("GET", "GET", "GET", "HEAD", "PUT", "POST", "DELETE", "OPTIONS", "BREW"))
    fields = [chance.choice((("te", "trailers"), ("connection", "close"), ("content-length", "7"), ("upgrade", "x"), ("transfer-encoding", "chunked"),
                             ("accept", chance.choice(("text/html", "text/plain;q=0.5, */*;q=0.1", "x/y"))), ("accept-language", chance.choice(("de", "en"))),
                             ("range", chance.choice(("bytes=0-4", "bytes=1-2,5-", "bytes=99999-", "x"))), ("if-none-match", chance.choice(('"x"', "*"))),
                             ("if-match", chance.choice(('"v1"', "*"))), ("content-type", chance.choice(("text/plain", "text/html"))), ("expect", "100-continue"),
                             ("x", "y" * 999), ("keep-alive", ""))) for _ in range(chance.randrange(6))]
    fields.insert(chance.randrange(len(fields) + 1), HOST)
    body = bytes(chance.randrange(256) for _ in range(chance.choice((0, 0, 1, 100, 900))))
    target = chance.choice(("/a", "/b", "/b", "/c", "/./a", "/a?q", "*", "http://h/a", "x", "/%zz"))
    return (method, octets(target), tuple(fields), tuple(body), chance.choice(((), (("t", "v"),))))


def answered(journey, count, now=100, most=10 ** 6):
    """The answers of a journey by number, once there are so many."""
    found = {}
    while len(found) < count and most > 0:
        journey.carry()
        journey.serve(0, now)
        for number, response in journey.answers():
            assert number not in found
            found[number] = response
        most -= 1
    return found


class EndsTest(unittest.TestCase):
    def test_ends(self):
        for version, kinds in ((1, (Client1, Server1)), (2, (Client2, Server2))):
            found = ends(version)
            self.assertIsInstance(found, tuple)
            self.assertEqual(tuple(end.__class__ for end in found), kinds)
            self.assertIsNot(ends(version)[0], found[0])


class JourneyTest(unittest.TestCase):
    def test_one_request(self):
        for version in (1, 2):
            journey = Journey(version, House(PAGES), (1000,))
            self.assertEqual(journey.ask(ask()), 0)
            self.assertEqual((journey.waiting(), journey.order(), journey.heard(), journey.answers()), ((), (), [], []))
            self.assertGreater(journey.carry(), 0)
            self.assertEqual((journey.waiting(), journey.heard()), ((0,), [ask()]))
            self.assertEqual(journey.serve(0, 50), 0)
            self.assertEqual((journey.waiting(), journey.order()), ((), (0,)))
            self.assertEqual(journey.answers(), [])
            journey.carry()
            self.assertEqual(journey.answers(), [(0, plain_run(PAGES, ((ask(), 50),))[0])])
            self.assertEqual(journey.answers(), [])
            self.assertFalse(journey.is_over())

    def test_sizes_and_directions_take_turns(self):
        for version in (1, 2):
            journey = Journey(version, House(PAGES), (5, 2, 7))
            journey.ask(ask())
            moved = [journey.carry() for _ in range(9)]
            # To the server go the sizes at 0, 2, 4, ..: 5, 7, 2, 5, 7; to the client 2, 5, 7, 2, of which nothing is there in version one.
            self.assertEqual(moved[0::2], [5, 7, 2, 5, 7])
            self.assertEqual(moved[1::2], [0, 0, 0, 0] if version == 1 else [2, 5, 2, 0])

    def test_plain_forms_are_asked_and_heard(self):
        request = ("PUT", octets("/c"), (("te", "trailers"), ("a", "1"), ("connection", "close"), HOST, ("content-length", "99")), (1, 2), (("t", "v"),))
        for version in (1, 2):
            journey = Journey(version, House(PAGES), (9,))
            journey.ask(request)
            journey.settle(0)
            self.assertEqual(journey.heard(), [("PUT", octets("/c"), (HOST, ("a", "1")), (1, 2), ())])
            self.assertFalse(journey.is_over())

    def test_what_the_house_is_asked_and_what_it_says(self):
        for version in (1, 2):
            origin = Told(((200, (("a", "1"), ("connection", "close"), ("te", "x"), ("content-length", "9")), (7,), (("t", "v"),)), (404, (), (1,), ()), (204, (), (), ())))
            journey = Journey(version, origin, (50,))
            asked = [ask(method="PUT", body=(1, 2)), ask(method="HEAD"), ask()]
            for request in asked:
                journey.ask(request)
            journey.settle(77)
            self.assertEqual(sorted(origin.asked()), sorted((request, 77) for request in asked))
            found = dict(journey.answers())
            self.assertEqual(len(found), 3)
            self.assertFalse(journey.is_over())
            for at, number in enumerate(journey.order()):
                request = journey.heard()[number]
                said = ((200, (("a", "1"),), (7,), ()), (404, (), (1,), ()), (204, (), (), ()))[at]
                self.assertEqual(found[asked.index(request)], plain_response(said, request[0]))

    def test_serving(self):
        for version in (1, 2):
            journey = Journey(version, House(PAGES), (10 ** 6,))
            self.assertEqual(journey.serve(0, 1), -1)
            self.assertEqual(journey.serve(5, 1), -1)
            for number in range(5):
                journey.ask(ask(f"/{number}"))
            journey.carry()
            self.assertEqual(journey.waiting(), (0, 1, 2, 3, 4))
            self.assertEqual(journey.serve(1, 1), 1)
            self.assertEqual(journey.waiting(), (0, 2, 3, 4))
            self.assertEqual(journey.serve(7, 1), 4)
            self.assertEqual(journey.serve(3, 1), 0)
            self.assertEqual(journey.waiting(), (2, 3))
            self.assertEqual(journey.serve(2, 1), 2)
            self.assertEqual(journey.serve(10 ** 9 + 1, 1), 3)
            self.assertEqual((journey.serve(0, 1), journey.waiting(), journey.order()), (-1, (), (1, 4, 0, 2, 3)))

    def test_times_of_serving(self):
        for version in (1, 2):
            journey = Journey(version, House(PAGES), (10 ** 6,))
            for _ in range(2):
                journey.ask(ask())
            journey.carry()
            journey.serve(1, 1000)
            journey.serve(0, 2000)
            journey.carry()
            self.assertEqual([response[1][0][1][17:25] for _, response in sorted(journey.answers())], ["00:33:20", "00:16:40"])

    def test_settle(self):
        for version in (1, 2):
            journey = Journey(version, House(PAGES), (10 ** 6,))
            # In version two the openings are carried, and answered, first.
            first = journey.settle(0)
            self.assertEqual(first, 2 if version == 1 else 5)
            self.assertEqual(journey.settle(0), 2)
            if first % 2 == 1:
                journey.carry()
            journey.ask(ask())
            # There, and served; back (in version two windows for it are carried there, too); then two calls with nothing.
            self.assertEqual(journey.settle(0), 4 if version == 1 else 5)
            self.assertEqual(len(journey.answers()), 1)
            self.assertEqual((journey.waiting(), journey.order()), ((), (0,)))

    def test_calls_behind_which_one_is_served_do_not_count(self):
        journey = Journey(1, House(PAGES), (10 ** 6,))
        for _ in range(4):
            journey.ask(ask())
        journey.carry()
        # Answers go to the client in the calls 1 and 3 (with the ones served behind the calls 0 to 2), then the last one in 5.
        calls = journey.settle(0)
        self.assertEqual(journey.order(), (0, 1, 2, 3))
        self.assertEqual(len(journey.answers()), 4)
        self.assertEqual(calls, 7)

    def test_a_call_that_moves_nothing_and_serves(self):
        journey = Journey(1, House(PAGES), (10 ** 6,))
        journey.ask(ask())
        journey.carry()
        # Nothing back, and served; nothing there; the answer back; two calls with nothing.
        self.assertEqual(journey.settle(0), 5)
        self.assertEqual(len(journey.answers()), 1)

    def test_lists_are_new(self):
        journey = Journey(2, House(PAGES), (100,))
        journey.ask(ask())
        journey.settle(0)
        journey.heard().clear()
        self.assertEqual(journey.heard(), [ask()])
        self.assertIsInstance(journey.order(), tuple)
        self.assertIsInstance(journey.waiting(), tuple)

    def test_faults_stay_as_they_are(self):
        for version, wanted, over in ((1, (400, (), (), ()), True), (2, ("fault", "reset"), False)):
            journey = Journey(version, House(PAGES), (100,))
            # A field that no end takes.
            journey.ask(("GET", octets("/a"), (HOST, ("a%", "x")), (), ()))
            journey.settle(0)
            self.assertEqual(journey.answers(), [(0, wanted)])
            self.assertEqual((journey.heard(), journey.is_over()), ([], over))
            if over:
                self.assertRaises(WrongUse, journey.ask, ask())

    def test_a_fault_of_an_answer(self):
        journey = Journey(1, Told(((101, (), (), ()),)), (100,))
        journey.ask(ask())
        journey.ask(ask())
        journey.settle(0)
        self.assertEqual(journey.answers(), [(0, ("fault", "line")), (1, ("fault", "lost"))])
        self.assertTrue(journey.is_over())


class LawTest(unittest.TestCase):
    """[11.4]: answers depend on requests and on the order and times of serving alone."""

    def travel(self, chance, version, requests):
        """A journey of these requests: its answers by number, and the steps of the house."""
        house = House(PAGES)
        sizes = tuple(chance.choice((1, 2, 7, 50, 5000)) for _ in range(chance.randrange(1, 4)))
        journey = Journey(version, house, sizes)
        left = list(requests)
        steps, found = [], {}
        now = 1000
        while len(found) < len(requests):
            if left and chance.randrange(3) == 0:
                self.assertEqual(journey.ask(left.pop(0)), len(requests) - len(left) - 1)
            for _ in range(chance.choice((1, 10, 300))):
                journey.carry()
            if chance.randrange(2):
                waiting = journey.waiting()
                now += chance.randrange(3)
                k = chance.randrange(20)
                number = journey.serve(k, now)
                self.assertEqual(number, waiting[k % len(waiting)] if waiting else -1)
                if number >= 0:
                    steps.append((journey.heard()[number], now))
            for number, response in journey.answers():
                self.assertNotIn(number, found)
                found[number] = response
        self.assertFalse(journey.is_over())
        self.assertEqual(len(journey.order()), len(requests))
        self.assertCountEqual(journey.heard(), [plain_request(request) for request in requests])
        if version == 1:
            self.assertEqual(journey.heard(), [plain_request(request) for request in requests])
        self.assertEqual([journey.heard()[number] for number in journey.order()], [request for request, _ in steps])
        return found, steps

    def test_answers_are_those_of_the_house(self):
        statuses = set()
        for seed in range(80):
            chance = random.Random(seed)
            # A field by which each request can be told from the others.
            requests = [(method, target, fields + (("n", str(number)),), body, trailers)
                        for number, (method, target, fields, body, trailers) in enumerate(random_request(chance) for _ in range(chance.randrange(1, 9)))]
            for version in (1, 2):
                found, steps = self.travel(chance, version, requests)
                run = plain_run(PAGES, tuple(steps))
                for (request, _), response in zip(steps, run):
                    number = int(dict(request[2])["n"])
                    self.assertEqual(found[number], response, (seed, version))
                    statuses.add(response[0])
        self.assertLessEqual({200, 201, 204, 206, 304, 400, 404, 406, 412, 415, 416, 501}, statuses)

    def test_versions_and_sizes_change_nothing(self):
        requests = [random_request(random.Random(seed)) for seed in range(12)]
        runs = []
        for version in (1, 2):
            for sizes in ((1,), (3, 1000, 1), (10 ** 6,)):
                journey = Journey(version, House(PAGES), sizes)
                found = []
                for at, request in enumerate(requests):
                    journey.ask(request)
                    journey.settle(at)
                    found.extend(journey.answers())
                runs.append(found)
        self.assertEqual([number for number, _ in runs[0]], list(range(12)))
        self.assertEqual(runs, runs[:1] * 6)
        self.assertEqual([response for _, response in runs[0]], plain_run(PAGES, tuple((request, at) for at, request in enumerate(requests))))

    def test_bounds(self):
        request = ("X" * 20, octets("/" + "~" * 999), (("host", "h" * 1000), ("x" * 40, "y" * 999), ("z", "")), (255,) * 99999, ())
        for version in (1, 2):
            journey = Journey(version, Told(((599, (("x" * 40, "y" * 999),), (0,) * 99999, ()),)), (10 ** 6,))
            for _ in range(3):
                journey.ask(request)
            journey.settle(0)
            self.assertEqual(journey.heard(), [request] * 3)
            self.assertEqual(sorted(journey.answers()), [(number, (599, (("x" * 40, "y" * 999),), (0,) * 99999, ())) for number in range(3)])


if __name__ == "__main__":
    unittest.main()
