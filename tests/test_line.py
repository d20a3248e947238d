import random
import unittest

from ownanswer.client1 import Client1
from ownanswer.line import Line, flow
from ownanswer.octets import without
from ownanswer.server1 import Server1
from support import octets

ADDED = ["content-length", "transfer-encoding"]


class Giver:
    """An end of a line that keeps account of its calls."""

    def __init__(self, row):
        self.row = tuple(row)
        self.asked_for = []
        self.taken = []

    def give(self, most):
        self.asked_for.append(most)
        piece, self.row = self.row[:most], self.row[most:]
        return piece

    def take(self, piece):
        self.taken.extend(piece)


class CarryTest(unittest.TestCase):
    def test_directions_take_turns(self):
        client, server = Giver(range(10)), Giver(range(100, 105))
        line = Line(client, server)
        self.assertEqual(line.carried, 0)
        self.assertEqual(line.carry(4), 4)
        self.assertEqual((server.taken, client.taken), ([0, 1, 2, 3], []))
        self.assertEqual(line.carry(2), 2)
        self.assertEqual((server.taken, client.taken), ([0, 1, 2, 3], [100, 101]))
        self.assertEqual(line.carry(100), 6)
        self.assertEqual(line.carry(100), 3)
        self.assertEqual(line.carry(100), 0)
        self.assertEqual(line.carry(100), 0)
        self.assertEqual(line.carried, 15)
        self.assertEqual((server.taken, client.taken), (list(range(10)), list(range(100, 105))))

    def test_turns_go_on_when_nothing_moves(self):
        client, server = Giver(()), Giver((1, 2))
        line = Line(client, server)
        self.assertEqual([line.carry(1) for _ in range(5)], [0, 1, 0, 1, 0])


class FlowTest(unittest.TestCase):
    def test_until_nothing_moves(self):
        client, server = Giver(range(5)), Giver(range(2))
        line = Line(client, server)
        # 2 there, 1 back, 2 there, 1 back, 1 there, and two calls that move nothing.
        self.assertEqual(flow(line, (2, 1), 100), 7)
        self.assertEqual(line.carried, 7)
        self.assertEqual(client.asked_for, [2, 2, 2, 2])
        self.assertEqual(server.asked_for, [1, 1, 1])
        self.assertEqual(flow(line, (2, 1), 100), 2)

    def test_sizes_are_taken_in_turn(self):
        client, server = Giver(range(9)), Giver(())
        line = Line(client, server)
        self.assertEqual(flow(line, (1, 2, 3), 100), 11)
        self.assertEqual(client.asked_for, [1, 3, 2, 1, 3, 2])
        self.assertEqual(server.asked_for, [2, 1, 3, 2, 1])

    def test_most_calls(self):
        for most in range(8):
            line = Line(Giver(range(5)), Giver(range(2)))
            self.assertEqual(flow(line, (2, 1), most), min(most, 7))
        self.assertEqual(flow(Line(Giver(()), Giver(())), (1,), 100), 2)
        self.assertEqual(flow(Line(Giver(()), Giver(())), (1,), 1), 1)

    def test_one_idle_call_does_not_end_it(self):
        line = Line(Giver(()), Giver(range(3)))
        self.assertEqual(flow(line, (1,), 100), 8)
        self.assertEqual(line.carried, 3)


class PairingTest(unittest.TestCase):
    METHODS = ("GET", "HEAD", "PUT", "POST", "OPTIONS", "X-~")

    def request(self, chance):
        fields = (("host", "h"), ("a", chance.choice(("", "b c"))))
        if chance.randrange(3) == 0:
            fields = fields + (("expect", "100-continue"), ("content-length", "7"))
        body = tuple(chance.randrange(256) for _ in range(chance.choice((0, 0, 1, 30, 400))))
        return (chance.choice(self.METHODS), octets("/" + "x" * chance.randrange(5)), fields, body, ())

    def response(self, chance):
        fields = (("a", str(chance.randrange(10 ** 6))), ("transfer-encoding", "x"))
        body = tuple(chance.randrange(256) for _ in range(chance.choice((0, 1, 30, 400))))
        return (chance.choice((200, 204, 304, 404, 599)), fields, body, ())

    def heard(self, request):
        return (request[0], request[1], without(request[2], ADDED), request[3], ())

    def answered(self, response, method):
        status, fields, body, _ = response
        bare = method == "HEAD" or status in (204, 304)
        return (status, without(fields, ADDED), () if bare else body, ())

    def test_answers_in_any_order_and_pieces(self):
        for seed in range(60):
            chance = random.Random(seed)
            client, server = Client1(), Server1()
            line = Line(client, server)
            requests, responses, waiting = [], {}, []
            found, heard = [], []
            sizes = tuple(chance.choice((1, 2, 5, 40, 1000)) for _ in range(chance.randrange(1, 4)))
            for _ in range(chance.randrange(1, 12)):
                request = self.request(chance)
                self.assertEqual(client.ask(request), len(requests))
                requests.append(request)
                flow(line, sizes, chance.choice((1, 7, 10 ** 6)))
            while len(found) < len(requests):
                told = server.asked()
                heard.extend(told)
                waiting.extend(number for number, _ in told)
                if waiting:
                    number = waiting.pop(chance.randrange(len(waiting)))
                    responses[number] = self.response(chance)
                    server.answer(number, responses[number])
                flow(line, sizes, chance.choice((1, 7, 10 ** 6)))
                found.extend(client.answers())
            self.assertEqual([(number, self.heard(request)) for number, request in heard],
                             [(number, self.heard(request)) for number, request in enumerate(requests)])
            wanted = [(number, self.answered(responses[number], request[0])) for number, request in enumerate(requests)]
            self.assertEqual([(number, self.answered(response, "GET")) for number, response in found], wanted)
            self.assertFalse(client.is_over() or server.is_over())

    def test_fields_that_are_added(self):
        client, server = Client1(), Server1()
        line = Line(client, server)
        client.ask(("PUT", octets("/"), (("host", "h"),), (1,), ()))
        client.ask(("GET", octets("/"), (("host", "h"), ("connection", "close")), (), ()))
        flow(line, (3,), 10 ** 6)
        told = server.asked()
        self.assertEqual([request[2] for _, request in told], [
            (("host", "h"), ("content-length", "1")), (("host", "h"), ("connection", "close"))])
        server.answer(1, (200, (), (2,), ()))
        server.answer(0, (200, (), (3,), ()))
        flow(line, (3,), 10 ** 6)
        self.assertEqual(client.answers(), [
            (0, (200, (("content-length", "1"),), (3,), ())),
            (1, (200, (("connection", "close"), ("content-length", "1")), (2,), ()))])
        self.assertTrue(client.is_over() and server.is_over())


if __name__ == "__main__":
    unittest.main()
