"""Turns ([8.4], [8.5], [8.6]): examples, a second way of choosing, and what holds of clocks, marks and shares."""

import random
import unittest

from ownanswer.turns import Turns

WEIGHTS = (1, 2, 3, 7, 15, 16, 17, 100, 255, 256)


def new_turns(*pairs):
    turns = Turns()
    for stream, weight in pairs:
        turns.add(stream, weight)
    return turns


class SecondTurns:
    """The words of [8.4] once more, with one list of rows."""

    def __init__(self):
        self.now = 0
        self.rows = []
        self.ready = ()

    def add(self, stream, weight):
        self.rows.append([stream, 65536 // weight, self.now])

    def remove(self, stream):
        self.rows = [row for row in self.rows if row[0] != stream]

    def set_weight(self, stream, weight):
        next(row for row in self.rows if row[0] == stream)[1] = 65536 // weight

    def choose(self, ready):
        rows = [row for row in self.rows if row[0] in ready]
        for row in rows:
            if row[0] not in self.ready:
                row[2] = max(row[2], self.now)
        self.ready = ready
        first = min(rows, key=lambda row: (row[2], row[0]))
        self.now = first[2]
        first[2] += first[1]
        return first[0]


class ChooseTest(unittest.TestCase):
    def test_example(self):
        turns = new_turns((1, 2), (3, 1))
        self.assertEqual([turns.choose((1, 3)) for _ in range(6)], [1, 3, 1, 1, 3, 1])

    def test_marks_and_clock(self):
        turns = new_turns((1, 2), (3, 1))
        self.assertEqual((turns.clock(), turns.mark(1), turns.mark(3)), (0, 0, 0))
        for stream, clock, one, three in ((1, 0, 32768, 0), (3, 0, 32768, 65536), (1, 32768, 65536, 65536), (1, 65536, 98304, 65536),
                                          (3, 65536, 98304, 131072)):
            self.assertEqual(turns.choose((1, 3)), stream)
            self.assertEqual((turns.clock(), turns.mark(1), turns.mark(3)), (clock, one, three))

    def test_strides(self):
        for weight, stride in ((1, 65536), (2, 32768), (3, 21845), (7, 9362), (16, 4096), (255, 257), (256, 256)):
            turns = new_turns((5, weight))
            self.assertEqual(turns.choose((5,)), 5)
            self.assertEqual((turns.mark(5), turns.clock()), (stride, 0))

    def test_equals(self):
        turns = new_turns((9, 16), (3, 16), (5, 16))
        self.assertEqual([turns.choose((3, 5, 9)) for _ in range(6)], [3, 5, 9, 3, 5, 9])

    def test_known(self):
        turns = new_turns((9, 16), (3, 16), (5, 16))
        self.assertEqual(turns.known(), [3, 5, 9])
        turns.known().append(1)
        turns.remove(5)
        self.assertEqual(turns.known(), [3, 9])
        self.assertEqual(Turns().known(), [])

    def test_who_comes_later_begins_at_the_clock(self):
        turns = new_turns((1, 16))
        for _ in range(5):
            turns.choose((1,))
        self.assertEqual(turns.clock(), 4 * 4096)
        turns.add(3, 1)
        self.assertEqual(turns.mark(3), 4 * 4096)

    def test_who_was_not_ready_does_not_catch_up(self):
        turns = new_turns((1, 16), (3, 16))
        for _ in range(10):
            turns.choose((1,))
        self.assertEqual((turns.mark(3), turns.clock()), (0, 9 * 4096))
        self.assertEqual(turns.choose((1, 3)), 3)
        self.assertEqual(turns.mark(3), 10 * 4096)
        self.assertEqual([turns.choose((1, 3)) for _ in range(4)], [1, 3, 1, 3])

    def test_who_was_ready_in_the_call_before_keeps_a_mark(self):
        turns = new_turns((1, 1), (3, 256))
        turns.choose((1, 3))
        turns.choose((1, 3))
        # 3 has the mark 256; the clock stays 0 as long as 3 is ready.
        self.assertEqual((turns.mark(1), turns.mark(3), turns.clock()), (65536, 256, 0))
        self.assertEqual(turns.choose((1,)), 1)
        self.assertEqual(turns.clock(), 65536)
        self.assertEqual(turns.choose((1, 3)), 3)
        self.assertEqual(turns.mark(3), 65536 + 256)

    def test_a_mark_ahead_of_the_clock_stays(self):
        turns = new_turns((1, 1), (3, 256))
        turns.choose((1, 3))
        turns.choose((3,))
        self.assertEqual((turns.mark(1), turns.clock()), (65536, 0))
        self.assertEqual(turns.choose((1, 3)), 3)
        self.assertEqual(turns.mark(1), 65536)

    def test_weights_change_and_marks_stay(self):
        turns = new_turns((1, 16), (3, 16))
        turns.choose((1, 3))
        turns.set_weight(1, 1)
        self.assertEqual(turns.mark(1), 4096)
        self.assertEqual([turns.choose((1, 3)) for _ in range(3)], [3, 1, 3])
        self.assertEqual((turns.mark(1), turns.mark(3)), (4096 + 65536, 2 * 4096))

    def test_streams_that_come_again(self):
        turns = new_turns((1, 16), (3, 16))
        turns.choose((1, 3))
        turns.remove(1)
        turns.add(1, 256)
        self.assertEqual(turns.mark(1), 0)
        self.assertEqual([turns.choose((1, 3)) for _ in range(3)], [1, 3, 1])

    def test_a_second_way(self):
        for seed in range(60):
            chance = random.Random(seed)
            turns, second = Turns(), SecondTurns()
            streams = []
            for _ in range(300):
                deed = chance.randrange(12)
                if deed == 0 or not streams:
                    stream, weight = chance.choice([n for n in range(1, 31) if n not in streams]), chance.choice(WEIGHTS)
                    streams.append(stream)
                    turns.add(stream, weight)
                    second.add(stream, weight)
                elif deed == 1 and len(streams) > 1:
                    stream = streams.pop(chance.randrange(len(streams)))
                    turns.remove(stream)
                    second.remove(stream)
                elif deed == 2:
                    stream, weight = chance.choice(streams), chance.choice(WEIGHTS)
                    turns.set_weight(stream, weight)
                    second.set_weight(stream, weight)
                else:
                    ready = tuple(sorted(stream for stream in streams if chance.randrange(4)))
                    if ready:
                        self.assertEqual(turns.choose(ready), second.choose(ready))
                self.assertEqual(turns.clock(), second.now)
                self.assertEqual(turns.known(), sorted(streams))
                self.assertEqual([turns.mark(row[0]) for row in second.rows], [row[2] for row in second.rows])


class LawsTest(unittest.TestCase):
    """[8.5]."""

    def test_clock_marks_and_waiting(self):
        for seed in range(40):
            chance = random.Random(seed)
            turns = Turns()
            strides, waits = {}, {}
            clock = 0
            for _ in range(400):
                if not strides or chance.randrange(15) == 0:
                    stream = max(strides, default=-1) + 2
                    weight = chance.choice(WEIGHTS)
                    turns.add(stream, weight)
                    strides[stream] = 65536 // weight
                ready = tuple(stream for stream in sorted(strides) if chance.randrange(5))
                if not ready:
                    continue
                # The row of tuples in which each ready stream was ready without being returned.
                waits = {stream: waits.get(stream, []) + [ready] for stream in ready}
                chosen = turns.choose(ready)
                self.assertGreaterEqual(turns.clock(), clock)
                clock = turns.clock()
                for stream in ready:
                    self.assertLessEqual(clock, turns.mark(stream))
                    self.assertLessEqual(turns.mark(stream), clock + strides[stream])
                for stream, row in waits.items():
                    others = {other for tuples in row for other in tuples} - {stream}
                    bound = sum(strides[stream] // strides[other] + 1 for other in others)
                    self.assertLessEqual(len(row) - (stream == chosen), bound)
                waits[chosen] = []

    def test_shares(self):
        for seed in range(30):
            chance = random.Random(seed)
            weights = {stream: chance.choice(WEIGHTS) for stream in range(1, 2 * chance.randrange(2, 7), 2)}
            turns = new_turns(*weights.items())
            times = dict.fromkeys(weights, 0)
            for _ in range(500):
                times[turns.choose(tuple(weights))] += 1
                for one in weights:
                    for two in weights:
                        strides = (65536 // weights[one], 65536 // weights[two])
                        self.assertLessEqual(abs(times[one] * strides[0] - times[two] * strides[1]), max(strides))


if __name__ == "__main__":
    unittest.main()
