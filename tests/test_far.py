"""An origin behind a line ([11.5]), and a keeper ahead of it."""

import random
import unittest

from support import octets
from test_journey import HOST, PAGES, ask, random_request

from ownanswer.far import Far
from ownanswer.house import House
from ownanswer.keeper import Keeper, Told
from ownanswer.plain import plain_request, plain_run


class FarTest(unittest.TestCase):
    def test_answers_are_those_of_the_house(self):
        for version in (1, 2):
            for sizes in ((1,), (10, 3), (10 ** 6,)):
                steps = [(random_request(random.Random(seed)), 100 + seed) for seed in range(40)]
                far = Far(version, House(PAGES), sizes)
                found = [far.answer(request, now) for request, now in steps]
                self.assertEqual(found, plain_run(PAGES, tuple(steps)))
                self.assertEqual(far.journeys(), 1)

    def test_what_the_house_is_asked(self):
        for version in (1, 2):
            origin = Told(((200, (), (), ()),))
            far = Far(version, origin, (20,))
            request = ("PUT", octets("/a"), (("te", "x"), ("a", "1"), HOST), (1,), ())
            self.assertEqual(far.answer(request, 9), (200, (), (), ()))
            self.assertEqual(origin.asked(), [(plain_request(request), 9)])

    def test_faults(self):
        for word in ((101, (), (), ()), (200, (("a", "x" * 2000),), (), ()), (200, (("a%", "x"),), (), ())):
            far = Far(1, Told((word, (200, (("a", "b"),), (), ()))), (20,))
            self.assertEqual(far.answer(ask(), 0), (502, (), (), ()))
            self.assertEqual(far.journeys(), 1)
            self.assertEqual(far.answer(ask(), 0), (200, (("a", "b"),), (), ()))
            self.assertEqual(far.answer(ask(), 0), (200, (("a", "b"),), (), ()))
            self.assertEqual(far.journeys(), 2)

    def test_faults_of_a_stream(self):
        for word in ((101, (), (), ()), (200, (("a", "x" * 2000),), (), ()), (200, (("a%", "x"),), (), ())):
            far = Far(2, Told((word, (200, (("a", "b"),), (), ()))), (20,))
            self.assertEqual(far.answer(ask(), 0), (502, (), (), ()))
            # The line goes on, and so does the journey.
            self.assertEqual(far.answer(ask(), 0), (200, (("a", "b"),), (), ()))
            self.assertEqual(far.journeys(), 1)

    def test_requests_that_end_a_line(self):
        bad = ("GET", octets("/a"), (HOST, ("a%", "x")), (), ())
        far = Far(1, House(PAGES), (20,))
        self.assertEqual(far.answer(bad, 0), (400, (), (), ()))
        self.assertEqual(far.answer(bad, 0), (400, (), (), ()))
        self.assertEqual(far.answer(ask(), 5), plain_run(PAGES, ((ask(), 5),))[0])
        self.assertEqual(far.journeys(), 3)
        far = Far(2, House(PAGES), (20,))
        self.assertEqual(far.answer(bad, 0), (502, (), (), ()))
        self.assertEqual(far.answer(ask(), 5), plain_run(PAGES, ((ask(), 5),))[0])
        self.assertEqual(far.journeys(), 1)


class KeeperTest(unittest.TestCase):
    def asked(self, seed):
        """Requests of a few kinds, so that copies are used, checked and dropped."""
        chance = random.Random(seed)
        now = 1000
        steps = []
        for _ in range(60):
            now += chance.choice((0, 1, 10, 40))
            fields = chance.choice(((), (), (), (("cache-control", "no-cache"),), (("cache-control", "max-age=5"),), (("cache-control", "max-stale"),),
                                    (("cache-control", "only-if-cached"),), (("if-none-match", '"x"'),), (("range", "bytes=0-1"),), (("accept", "text/html"),),
                                    (("cache-control", "no-store"),), (("accept-language", "de"),)))
            method = chance.choice(("GET",) * 8 + ("HEAD", "PUT", "DELETE"))
            body = octets(f"new {now}") if method == "PUT" else ()
            more = (("content-type", "text/plain"),) if method == "PUT" else ()
            steps.append(((method, octets(chance.choice(("/a", "/b", "/c"))), (HOST,) + fields + more, body, ()), now))
        return steps

    def test_a_keeper_behaves_as_ahead_of_the_house(self):
        hows = set()
        for seed in range(12):
            steps = self.asked(seed)
            runs = []
            for origin in (House(PAGES), Far(1, House(PAGES), (7, 100)), Far(2, House(PAGES), (7, 100))):
                keeper = Keeper(origin, 4)
                runs.append(([keeper.ask(request, now) for request, now in steps], keeper.entries()))
            self.assertEqual(runs, runs[:1] * 3)
            hows.update(how for _, how in runs[0][0])
        self.assertEqual(hows, {"kept", "checked", "fetched", "refused"})

    def test_what_is_shown_is_what_the_house_said(self):
        """Each answer from a copy is one that the house gave, for the same page, not longer ago than its lifetime and max-stale allow."""
        for seed in range(12):
            house = House(PAGES)
            keeper = Keeper(house, 4)
            bodies = {}
            for request, now in self.asked(seed):
                response, how = keeper.ask(request, now)
                if how == "fetched" and response[0] == 200 and request[0] == "GET":
                    bodies.setdefault(request[1], []).append(response[2])
                if how in ("kept", "checked") and response[0] == 200:
                    self.assertIn(response[2], bodies[request[1]])
                    self.assertEqual(response[1][-1][0], "age")


if __name__ == "__main__":
    unittest.main()
