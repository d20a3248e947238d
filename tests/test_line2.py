"""Both ends of version two, joined by a line ([3.7], [3.8], [9.12], [0.1])."""

import random
import unittest

from support import octets
from support2 import ASK, REPLY, pairs

from ownanswer.client2 import Client2
from ownanswer.line import Line, flow
from ownanswer.link2 import Link
from ownanswer.octets import without
from ownanswer.server2 import Server2

GONE = ["connection", "keep-alive", "proxy-connection", "transfer-encoding", "upgrade"]


class PairingTest(unittest.TestCase):
    def request(self, chance):
        fields = (("host", chance.choice(("h", "h:80"))), ("a", chance.choice(("", "b c"))), ("connection", "close"), ("x", "y" * chance.choice((0, 999))))
        body = bytes(chance.randrange(256) for _ in range(chance.choice((0, 0, 1, 30, 400))))
        trailers = chance.choice(((), (), (("t", "v"), ("t", "w"))))
        return (chance.choice(("GET", "HEAD", "PUT", "X-~")), octets("/" + "x" * chance.randrange(5)), fields, tuple(body), trailers)

    def response(self, chance):
        fields = (("a", str(chance.randrange(10 ** 6))), ("upgrade", "x"), ("b", "z" * chance.choice((0, 999))))
        body = bytes(chance.randrange(256) for _ in range(chance.choice((0, 1, 30, 400))))
        return (chance.choice((200, 204, 304, 404, 599)), fields, tuple(body), chance.choice(((), (), (("t", "v"),))))

    def heard(self, request):
        return (request[0], request[1], without(request[2], GONE), request[3], request[4])

    def answered(self, response, method):
        status, fields, body, trailers = response
        return (status, without(fields, GONE), () if method == "HEAD" or status in (204, 304) else body, trailers)

    def test_answers_in_any_order_and_pieces(self):
        for seed in range(60):
            chance = random.Random(seed)
            client, server = Client2(), Server2()
            line = Line(client, server)
            requests, responses, waiting = [], {}, {}
            found = []
            sizes = tuple(chance.choice((1, 2, 5, 40, 1000)) for _ in range(chance.randrange(1, 4)))
            for _ in range(chance.randrange(1, 12)):
                request = self.request(chance)
                self.assertEqual(client.ask(request), len(requests))
                requests.append(request)
                flow(line, sizes, chance.choice((1, 7, 10 ** 6)))
            left = [self.heard(request) for request in requests]
            while len(found) < len(requests):
                for number, request in server.asked():
                    self.assertEqual(number, len(waiting) + len(responses))
                    left.remove(request)
                    waiting[number] = request
                if waiting:
                    number = chance.choice(sorted(waiting))
                    request = waiting.pop(number)
                    # Equal requests may be exchanged, so each answer says which request it is for.
                    response = self.response(chance)
                    responses[number] = (request, self.answered(response, request[0]))
                    server.answer(number, response)
                flow(line, sizes, chance.choice((1, 7, 10 ** 6)))
                found.extend(client.answers())
            self.assertEqual(left, [])
            self.assertEqual(sorted(number for number, _ in found), list(range(len(requests))))
            told = [(self.heard(requests[number]), response) for number, response in found]
            self.assertCountEqual(told, list(responses.values()))
            self.assertFalse(client.is_over() or server.is_over())

    def test_pieces_change_no_answer(self):
        runs = []
        for sizes in ((1,), (3, 1, 50), (10 ** 6,), (7, 16384)):
            client, server = Client2(), Server2()
            line = Line(client, server)
            for number in range(4):
                client.ask(("PUT", (47, 48 + number), (("host", "h"),), (number,) * 9000 * number, ()))
            found = []
            while len(found) < 4:
                flow(line, sizes, 10 ** 6)
                told = {request[1][1] - 48: (key, request) for key, request in server.asked()}
                for number in sorted(told, reverse=True):
                    key, request = told[number]
                    server.answer(key, (200 + number, (), request[3] + (9,), (("n", str(number)),)))
                flow(line, sizes, 10 ** 6)
                found.extend(client.answers())
            runs.append(sorted(found))
        self.assertEqual(runs[0], [(number, (200 + number, (), (number,) * 9000 * number + (9,), (("n", str(number)),))) for number in range(4)])
        self.assertEqual(runs, runs[:1] * 4)

    def test_long_bodies_in_both_directions(self):
        client, server = Client2(), Server2()
        line = Line(client, server)
        body = tuple(number % 256 for number in range(99999))
        for _ in range(3):
            client.ask(("PUT", (47,), (("host", "h"),), body, (("a", "b"),)))
        flow(line, (5000, 70), 10 ** 6)
        told = server.asked()
        self.assertEqual([request[3:] for _, request in told], [(body, (("a", "b"),))] * 3)
        for number, _ in told:
            server.answer(number, (200, (), body[number:], ()))
        flow(line, (5000, 70), 10 ** 6)
        self.assertEqual(sorted(client.answers()), [(number, (200, (), body[number:], ())) for number in range(3)])

    def test_a_malformed_request_hurts_no_other_one(self):
        client, server = Client2(), Server2()
        line = Line(client, server)
        for fields in ((), (("Up", "x"),), (("a", "b"),), (("content-length", "5"),), ()):
            client.ask(("GET", (47,), fields, (), ()))
        flow(line, (11,), 10 ** 6)
        for number, request in server.asked():
            server.answer(number, (200, request[2], (), ()))
        flow(line, (11,), 10 ** 6)
        ok = (200, (), (), ())
        self.assertEqual(sorted(client.answers(), key=lambda pair: pair[0]),
                         [(0, ok), (1, ("fault", "reset")), (2, (200, (("a", "b"),), (), ())), (3, ("fault", "reset")), (4, ok)])


class LinksTest(unittest.TestCase):
    """Two links with settings that change while streams are open: what is added on one side is told on the other, in order."""

    def told(self, events):
        """The events of each stream, octets joined."""
        found = {}
        for event in events:
            row = found.setdefault(event[1], [])
            if event[0] == "body" and row and row[-1][0] == "body":
                row[-1] = ("body", row[-1][1] + event[2])
            else:
                row.append((event[0],) + event[2:])
        return found

    def run_links(self, seed):
        chance = random.Random(seed)
        ends = {"client": Link("client"), "server": Link("server")}
        line = Line(ends["client"], ends["server"])
        sent = {"client": {}, "server": {}}
        open_streams = {"client": [], "server": []}
        events = {"client": [], "server": []}
        for _ in range(chance.randrange(50, 200)):
            side = chance.choice(("client", "server"))
            link = ends[side]
            deed = chance.randrange(8)
            last = chance.randrange(4) == 0
            streams = open_streams[side]
            if deed == 0 and side == "client":
                stream = link.start(ASK, last)
                sent[side][stream] = [("head", ASK, last)] + [("end",)] * last
                streams += [] if last else [stream]
            elif deed in (1, 2, 3) and streams:
                stream = chance.choice(streams)
                body = (chance.randrange(256),) * chance.choice((0, 1, 50, 3000))
                link.body(stream, body, last)
                row = sent[side][stream]
                if body and row and row[-1][0] == "body":
                    row[-1] = ("body", row[-1][1] + body)
                elif body:
                    row.append(("body", body))
            elif deed == 4 and streams:
                stream = chance.choice(streams)
                rows = chance.choice((REPLY, pairs(("a", "b"), ("c", str(chance.randrange(9))))))
                link.head(stream, rows, last)
                sent[side][stream].append(("head", rows, last))
            elif deed == 5:
                link.change((chance.choice(((4, chance.choice((1, 10, 1000, 65535, 100000))), (5, chance.choice((16384, 20000))),
                                             (3, chance.choice((1, 2, 5))), (1, chance.choice((0, 64, 300, 4096))))),))
            else:
                flow(line, (chance.choice((1, 5, 100, 5000)),), chance.choice((1, 4, 50)))
            if deed in (1, 2, 3, 4) and streams and last:
                sent[side][stream].append(("end",))
                streams.remove(stream)
            for name, end in ends.items():
                for event in end.events():
                    events[name].append(event)
                    if name == "server" and event[0] == "head" and event[1] not in sent["server"]:
                        sent["server"][event[1]] = []
                        open_streams["server"].append(event[1])
        # Whoever waits for windows and turns gets them in the end, once all streams may be opened.
        ends["server"].change(((3, 1000),))
        flow(line, (1000,), 10 ** 6)
        for name, end in ends.items():
            events[name].extend(end.events())
            self.assertFalse(end.is_over())
        return sent, events

    def test_what_is_added_is_told(self):
        ended = 0
        for seed in range(60):
            sent, events = self.run_links(seed)
            for one, two in (("client", "server"), ("server", "client")):
                wanted = {stream: row for stream, row in sent[one].items() if row}
                self.assertEqual(self.told(events[two]), wanted, seed)
                ended += sum(row[-1] == ("end",) for row in wanted.values())
        self.assertGreater(ended, 200)


if __name__ == "__main__":
    unittest.main()
