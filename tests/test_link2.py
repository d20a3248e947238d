"""A link of version two: opening, sending, the order of sending ([9.3] to [9.5], [8.3])."""

import unittest

from support import octets
from support2 import ALL, ANSWER, ASK, OPENING, REPLY, SETTINGS, Peer, data, new_client, new_server, pairs, row_of

from ownanswer.frames import frame_octets
from ownanswer.link2 import Link
from ownanswer.packer import Packer
from ownanswer.prefixints import write_int
from ownanswer.turns import Turns


class OpeningTest(unittest.TestCase):
    def test_what_is_put_out(self):
        self.assertEqual(len(OPENING), 24)
        self.assertEqual(Link("client").give(ALL), OPENING + (0, 0, 6, 4, 0, 0, 0, 0, 0, 0, 2, 0, 0, 0, 0))
        self.assertEqual(Link("server").give(ALL), (0, 0, 0, 4, 0, 0, 0, 0, 0))

    def test_small_amounts(self):
        link = Link("client")
        self.assertEqual(link.give(0), ())
        self.assertEqual(link.give(10), OPENING[:10])
        self.assertEqual(link.give(20), OPENING[10:] + (0, 0, 6, 4, 0, 0))
        self.assertEqual(len(link.give(20)), 9)
        self.assertEqual(link.give(20), ())

    def test_the_opening_is_read(self):
        for size in (1, 7, 24, 100):
            link = Link("server")
            row = OPENING + frame_octets(SETTINGS)
            for at in range(0, len(row), size):
                link.take(row[at:at + size])
            self.assertEqual(link.events(), [])
            self.assertFalse(link.is_over())
            self.assertEqual(link.give(ALL), row_of([SETTINGS, ANSWER]))

    def test_each_wrong_octet(self):
        for at in range(24):
            for pieces in ((1,) * 40, (40,)):
                link = Link("server")
                row = OPENING[:at] + (OPENING[at] ^ 32,) + OPENING[at + 1:] + frame_octets(SETTINGS)
                begin = 0
                for size in pieces:
                    if begin <= at:
                        self.assertFalse(link.is_over())
                    link.take(row[begin:begin + size])
                    begin += size
                self.assertEqual(link.events(), [("fault", "opening")], at)
                self.assertTrue(link.is_over())
                self.assertEqual(link.give(ALL), row_of([SETTINGS, ("away", 0, 2, ())]))

    def test_the_fault_stands_at_the_first_wrong_octet(self):
        link = Link("server")
        link.take(OPENING[:5])
        self.assertEqual(link.events(), [])
        link.take((0,))
        self.assertEqual(link.events(), [("fault", "opening")])

    def test_a_client_reads_no_opening(self):
        link, peer = new_client(opened=False)
        link.take(OPENING)
        self.assertEqual(link.events(), [("fault", "size")])

    def test_the_first_frame(self):
        for side, start in (("client", ()), ("server", OPENING)):
            for frame in (ANSWER, ("ping", False, (0,) * 8), ("part", 1, (False, 0, 9)), ("window", 0, 5), ("away", 0, 0, ()), ("other", 77, 0, 0, ()),
                          ("head", 1, True, True, None, Packer(4096).pack(ASK), None), data(1, "x"), ("reset", 1, 0), ("promise", 1, True, 2, (), None)):
                link = Link(side)
                link.take(start + row_of([frame, SETTINGS]))
                self.assertEqual(link.events(), [("fault", "order")], frame)
                self.assertEqual(link.give(ALL)[-17:], row_of([("away", 0, 1, ())]))
            for frame in (SETTINGS, ("settings", False, ((99, 1), (4, 5)))):
                link = Link(side)
                link.take(start + row_of([frame, ("ping", False, (0,) * 8)]))
                self.assertEqual(link.events(), [])
                self.assertFalse(link.is_over())


class SendingTest(unittest.TestCase):
    def test_streams_are_numbered(self):
        link, peer = new_client()
        self.assertEqual([link.start(ASK, True) for _ in range(4)], [1, 3, 5, 7])
        self.assertEqual(peer.frames(), [("head", stream, True, ASK) for stream in (1, 3, 5, 7)])

    def test_heads_and_bodies(self):
        link, peer = new_client()
        self.assertEqual(link.start(ASK, False), 1)
        link.body(1, octets("one"), False)
        link.body(1, [116, 119, 111], False)
        link.head(1, pairs(("a", "b")), True)
        self.assertEqual(peer.frames(), [("head", 1, False, ASK), data(1, "one"), data(1, "two"), ("head", 1, True, pairs(("a", "b")))])
        self.assertEqual(link.start(ASK, False), 3)
        link.body(3, octets("x"), True)
        self.assertEqual(peer.frames(), [("head", 3, False, ASK), data(3, "x", True)])

    def test_no_octets(self):
        link, peer = new_client()
        link.start(ASK, False)
        link.body(1, (), False)
        self.assertEqual(peer.frames(), [("head", 1, False, ASK)])
        link.body(1, (), False)
        self.assertEqual(peer.frames(), [])
        link.body(1, (), True)
        self.assertEqual(peer.frames(), [data(1, "", True)])
        self.assertEqual(peer.frames(), [])

    def test_what_was_ended_is_not_gone_on_with(self):
        for last in ("start", "body", "head"):
            link, peer = new_client()
            link.start(ASK, last == "start")
            if last == "body":
                link.body(1, octets("x"), True)
            if last == "head":
                link.head(1, pairs(("a", "b")), True)
            for _ in range(2):
                # Ahead of what is put out, and behind it.
                link.body(1, octets("y"), False)
                link.body(1, (), True)
                link.head(1, pairs(("c", "d")), True)
                frames = peer.frames()
                self.assertNotIn(data(1, "y"), frames)
                self.assertEqual(len([frame for frame in frames if frame[2]]), 1 if _ == 0 else 0)

    def test_streams_that_are_not_there(self):
        for link, peer in (new_client(), new_server()):
            for stream in (1, 2, 99):
                link.head(stream, REPLY, False)
                link.body(stream, octets("x"), True)
                link.reset(stream, "value")
            self.assertEqual((peer.frames(), link.events(), link.is_over()), ([], [], False))

    def test_closed_streams(self):
        link, peer = new_client()
        link.start(ASK, True)
        peer.frames()
        peer.send_head(1, REPLY, True)
        link.head(1, ASK, False)
        link.body(1, octets("x"), True)
        link.reset(1, "value")
        self.assertEqual(peer.frames(), [])
        self.assertEqual(link.events(), [("head", 1, REPLY, True), ("end", 1)])

    def test_reset(self):
        for word, code in (("value", 1), ("busy", 11), ("refused", 7), ("none", 0), ("anything", 2)):
            link, peer = new_client()
            link.start(ASK, False)
            peer.frames()
            link.body(1, octets("x"), True)
            link.reset(1, word)
            link.reset(1, "busy")
            link.body(1, octets("y"), True)
            self.assertEqual(peer.frames(), [("reset", 1, code)])
            self.assertEqual(link.events(), [])

    def test_reset_of_a_stream_that_is_not_opened(self):
        link, peer = new_client()
        link.start(ASK, True)
        link.start(ASK, True)
        link.reset(1, "busy")
        link.head(1, ASK, True)
        self.assertEqual(peer.frames(), [("head", 3, True, ASK)])
        self.assertEqual(link.start(ASK, True), 5)

    def test_what_is_handed_in_may_change_later(self):
        link, peer = new_client()
        head_list, body = list(ASK), [1, 2, 3]
        link.start(head_list, False)
        link.body(1, body, True)
        head_list.clear()
        body.clear()
        self.assertEqual(peer.frames(), [("head", 1, False, ASK), ("data", 1, True, (1, 2, 3), None)])


class OrderTest(unittest.TestCase):
    def test_answers_go_in_front(self):
        link, peer = new_client()
        link.start(ASK, True)
        link.start(ASK, True)
        peer.send(("ping", False, (1,) * 8), ("settings", False, ((99, 9),)), ("ping", True, (3,) * 8), ("ping", False, (2,) * 8))
        self.assertEqual(peer.frames(1), [])
        self.assertEqual(peer.frames(ALL), [("ping", True, (1,) * 8), ANSWER, ("ping", True, (2,) * 8), ("head", 1, True, ASK), ("head", 3, True, ASK)])

    def test_items_are_put_out_when_octets_are_wanted(self):
        link, peer = new_client()
        link.start(ASK, False)
        link.body(1, octets("a" * 50), False)
        link.body(1, octets("b" * 50), True)
        # The head is put out for the first octet; what answers a ping then stands behind it, but ahead of the octets.
        frames = peer.frames(1)
        peer.send(("ping", False, (1,) * 8))
        frames += peer.frames(12 + 17)
        peer.send(("ping", False, (2,) * 8))
        frames += peer.frames()
        self.assertEqual(frames, [("head", 1, False, ASK), ("ping", True, (1,) * 8), data(1, "a" * 50), ("ping", True, (2,) * 8), data(1, "b" * 50, True)])

    def test_give_puts_out_no_more_than_it_needs(self):
        link, peer = new_client()
        link.start(ASK, True)
        size = len(frame_octets(("head", 1, True, True, None, Packer(4096).pack(ASK), None)))
        link.start(ASK, True)
        self.assertEqual(peer.frames(size), [("head", 1, True, ASK)])
        link.reset(3, "busy")
        self.assertEqual(peer.frames(), [])
        link.start(ASK, True)
        link.start(ASK, True)
        self.assertEqual(peer.frames(size + 1), [("head", 5, True, ASK)])
        # One octet of the next stream is out, so it is there for the other end.
        link.reset(7, "busy")
        self.assertEqual(peer.frames(), [("head", 7, True, ASK), ("reset", 7, 11)])

    def test_one_octet_at_a_time(self):
        rows = []
        for most in (1, 3, 50, ALL):
            link, peer = new_client()
            for _ in range(3):
                stream = link.start(ASK, False)
                link.body(stream, octets("x" * 40000), False)
                link.head(stream, pairs(("a", "b")), True)
            row = ()
            piece = link.give(most)
            while piece:
                row += piece
                piece = link.give(most)
            rows.append(row)
        self.assertEqual(rows, rows[:1] * 4)
        self.assertGreater(len(rows[0]), 65535)

    def test_turns(self):
        link, peer = new_server()
        weights = {1: 16, 3: 256, 5: 1, 7: 32}
        for stream, weight in weights.items():
            peer.send_head(stream, ASK, True, part=None if weight == 16 else (False, 0, weight))
        turns = Turns()
        for stream, weight in weights.items():
            turns.add(stream, weight)
            link.head(stream, REPLY, False)
            for number in range(20):
                link.body(stream, (number,), number == 19)
        left = dict.fromkeys(weights, 21)
        wanted = []
        while left:
            stream = turns.choose(tuple(left))
            wanted.append(stream)
            left[stream] -= 1
            if left[stream] == 0:
                del left[stream]
                turns.remove(stream)
        self.assertEqual([frame[1] for frame in peer.frames()], wanted)

    def test_parts_count_ahead_and_behind(self):
        link, peer = new_server()
        peer.send(("part", 1, (False, 3, 1)), ("part", 3, (True, 0, 4)), ("part", 0 + 9, (False, 0, 3)))
        peer.send_head(1, ASK, True)
        peer.send_head(3, ASK, True)
        for stream in (1, 3):
            for number in range(9):
                link.body(stream, (number,), False)
        self.assertEqual([frame[1] for frame in peer.frames(10 * 6)], [1, 3, 3, 3, 3, 1])
        # From now on 1 has the greater weight; its mark stays.
        peer.send(("part", 1, (False, 0, 256)))
        self.assertEqual([frame[1] for frame in peer.frames(10 * 6)], [3, 3, 3, 3, 1, 3])
        self.assertEqual([frame[1] for frame in peer.frames()], [1] * 6)
        self.assertEqual(link.events(), [event for stream in (1, 3) for event in (("head", stream, ASK, True), ("end", stream))])

    def test_a_client_is_told_weights(self):
        link, peer = new_client()
        peer.send(("part", 1, (False, 0, 1)), ("part", 3, (False, 0, 2)))
        for _ in range(2):
            stream = link.start(ASK, False)
            for number in range(6):
                link.body(stream, (number,), False)
        self.assertEqual([frame[1] for frame in peer.frames(2 * 12 + 10 * 4)], [1, 3, 3, 1, 3, 3])

    def test_a_part_of_trailers_and_of_closed_streams(self):
        link, peer = new_server()
        peer.send_head(1, ASK)
        peer.send_head(3, ASK, True)
        peer.send_head(1, pairs(("a", "b")), True, part=(False, 0, 32))
        for stream in (1, 3):
            for number in range(6):
                link.body(stream, (number,), False)
        self.assertEqual([frame[1] for frame in peer.frames(10 * 6)], [1, 3, 1, 1, 3, 1])
        link.reset(1, "busy")
        peer.send(("part", 1, (False, 0, 9)))
        self.assertFalse(link.is_over())


class HeadListTest(unittest.TestCase):
    def test_long_lists(self):
        for size, parts in ((16384, 1), (16385, 2), (3 * 16384, 3), (3 * 16384 + 1, 4), (70000, 5)):
            link, peer = new_client()
            value = (0,) * next(many for many in range(size - 10, size) if 3 + len(write_int(7, many, 0)) + many == size)
            block = Packer(4096).pack([((0,), value)])
            self.assertEqual(len(block), size)
            link.start([((0,), value)], True)
            row = link.give(ALL)
            frames = [("head", 1, True, parts == 1, None, block[:16384], None)]
            frames += [("more", 1, at + 16384 >= size, block[at:at + 16384]) for at in range(16384, size, 16384)]
            self.assertEqual(len(frames), parts)
            self.assertEqual(row[-len(row_of(frames)):], row_of(frames))

    def test_a_greater_most(self):
        link, peer = new_client(opened=False)
        peer.send(("settings", False, ((5, 20000),)))
        peer.frames()
        peer.reader.set_most(20000)
        link.start([((0,), (0,) * 39990)], False)
        link.body(1, octets("x" * 50000), False)
        frames = peer.frames()
        self.assertEqual([frame[0] for frame in frames], ["head", "more", "data", "data", "data"])
        self.assertEqual([len(frame[3]) for frame in frames[2:]], [20000, 20000, 10000])

    def test_lists_are_packed_when_they_are_put_out(self):
        link, peer = new_client()
        link.start(pairs(("x-one", "value"), ("x-two", "value")), True)
        link.start(pairs(("x-one", "value")), True)
        peer.send(("settings", False, ((1, 40),)))
        packer = Packer(4096)
        packer.set_limit(40)
        wanted = [("head", 1, True, True, None, packer.pack(pairs(("x-one", "value"), ("x-two", "value"))), None),
                  ("head", 3, True, True, None, packer.pack(pairs(("x-one", "value"))), None)]
        self.assertEqual(link.give(ALL), row_of([ANSWER] + wanted))

    def test_an_empty_list(self):
        link, peer = new_client()
        link.start([], True)
        self.assertEqual(peer.frames(), [("head", 1, True, [])])


class DataTest(unittest.TestCase):
    def sizes(self, frames):
        return [len(frame[3]) for frame in frames if frame[0] == "data"]

    def test_most(self):
        link, peer = new_client()
        link.start(ASK, False)
        link.body(1, octets("x" * 40000), True)
        frames = peer.frames()
        self.assertEqual(self.sizes(frames), [16384, 16384, 7232])
        self.assertEqual([frame[2] for frame in frames[1:]], [False, False, True])

    def test_the_window_of_a_stream(self):
        link, peer = new_client(opened=False)
        peer.send(("settings", False, ((4, 10),)))
        peer.frames()
        link.start(ASK, False)
        link.body(1, octets("x" * 25), True)
        self.assertEqual(self.sizes(peer.frames()), [10])
        self.assertEqual(peer.frames(), [])
        peer.send(("window", 0, 1000))
        self.assertEqual(peer.frames(), [])
        peer.send(("window", 1, 1))
        self.assertEqual(peer.frames(), [data(1, "x")])
        peer.send(("window", 1, 500))
        self.assertEqual(peer.frames(), [data(1, "x" * 14, True)])

    def test_the_window_of_the_line(self):
        link, peer = new_client()
        for _ in range(2):
            link.body(link.start(ASK, False), octets("x" * 40000), True)
        self.assertEqual(sum(self.sizes(peer.frames())), 65535)
        peer.send(("window", 1, 1000), ("window", 3, 1000))
        self.assertEqual(peer.frames(), [])
        peer.send(("window", 0, 7))
        self.assertEqual(self.sizes(peer.frames()), [7])
        peer.send(("window", 0, 1))
        self.assertEqual(self.sizes(peer.frames()), [1])
        peer.send(("window", 0, 80000))
        self.assertEqual(sum(self.sizes(peer.frames())), 80000 - 65535 - 8)

    def test_what_needs_no_window(self):
        link, peer = new_client(opened=False)
        peer.send(("settings", False, ((4, 0),)))
        peer.frames()
        link.start(ASK, False)
        link.body(1, (), True)
        link.start(ASK, False)
        link.head(3, pairs(("a", "b")), True)
        self.assertEqual([frame[:3] for frame in peer.frames()], [("head", 1, False), ("head", 3, False), ("data", 1, True), ("head", 3, True)])

    def test_a_stream_without_room_lets_others_go(self):
        link, peer = new_client(opened=False)
        peer.send(("settings", False, ((4, 5),)))
        peer.frames()
        for _ in range(2):
            link.body(link.start(ASK, False), octets("x" * 8), True)
        self.assertEqual(self.sizes(peer.frames()), [5, 5])
        peer.send(("window", 3, 100))
        self.assertEqual(peer.frames(), [data(3, "xxx", True)])
        peer.send(("window", 1, 3))
        self.assertEqual(peer.frames(), [data(1, "xxx", True)])

    def test_octets_leave_in_their_order(self):
        link, peer = new_server()
        peer.send_head(1, ASK, True)
        body = tuple(number % 251 for number in range(60000))
        for begin, end in ((0, 1), (1, 20000), (20000, 20000), (20000, 60000)):
            link.body(1, body[begin:end], end == 60000)
        frames = peer.frames()
        self.assertEqual(tuple(octet for frame in frames for octet in frame[3]), body)
        self.assertEqual([frame[2] for frame in frames], [False] * (len(frames) - 1) + [True])
        self.assertEqual(self.sizes(frames), [1, 16384, 3615, 16384, 16384, 7232])


class BoundOfStreamsTest(unittest.TestCase):
    def test_streams_wait(self):
        link, peer = new_client(opened=False)
        peer.send(("settings", False, ((3, 2),)))
        peer.frames()
        for _ in range(5):
            link.start(ASK, True)
        self.assertEqual(peer.frames(), [("head", 1, True, ASK), ("head", 3, True, ASK)])
        peer.send_head(3, REPLY, True)
        self.assertEqual(peer.frames(), [("head", 5, True, ASK)])
        # A stream that the other end still hears is counted, one that is reset is not.
        peer.send_head(1, REPLY)
        self.assertEqual(peer.frames(), [])
        link.reset(1, "busy")
        self.assertEqual(peer.frames(), [("reset", 1, 11), ("head", 7, True, ASK)])
        peer.send(("reset", 7, 0))
        self.assertEqual(peer.frames(), [("head", 9, True, ASK)])

    def test_none_at_all(self):
        link, peer = new_client(opened=False)
        peer.send(("settings", False, ((3, 0),)))
        peer.frames()
        link.start(ASK, True)
        self.assertEqual(peer.frames(), [])
        peer.send(("settings", False, ((3, 1),)))
        self.assertEqual(peer.frames(), [ANSWER, ("head", 1, True, ASK)])

    def test_a_lower_bound_leaves_what_is_open(self):
        link, peer = new_client()
        link.start(ASK, False)
        link.start(ASK, False)
        peer.frames()
        peer.send(("settings", False, ((3, 1),)))
        link.body(1, octets("x"), False)
        link.body(3, octets("y"), True)
        link.start(ASK, True)
        self.assertEqual(peer.frames(), [ANSWER, data(1, "x"), data(3, "y", True)])
        peer.send_head(3, REPLY, True)
        self.assertEqual(peer.frames(), [])
        peer.send(("reset", 1, 0))
        self.assertEqual(peer.frames(), [("head", 5, True, ASK)])

    def test_the_least_one_goes_first(self):
        link, peer = new_client(opened=False)
        # Weights would have the others go first.
        peer.send(SETTINGS, ("part", 3, (False, 0, 256)), ("part", 5, (False, 0, 256)), ("part", 1, (False, 0, 1)))
        peer.frames()
        for _ in range(3):
            link.start(ASK, False)
        self.assertEqual([frame[1] for frame in peer.frames()], [1, 3, 5])

    def test_the_least_one_that_is_reset_is_not_waited_for(self):
        link, peer = new_client(opened=False)
        peer.send(("settings", False, ((3, 1),)))
        peer.frames()
        for _ in range(3):
            link.start(ASK, True)
        peer.frames()
        link.reset(3, "busy")
        peer.send_head(1, REPLY, True)
        self.assertEqual(peer.frames(), [("head", 5, True, ASK)])

    def test_the_bound_is_the_clients_own_matter(self):
        link, peer = new_server()
        link.change(((3, 1),))
        peer.send(ANSWER)
        for stream in (1, 3, 5):
            peer.send_head(stream, ASK)
        self.assertEqual([event[0] for event in link.events()], ["head"] * 3)


class PeerTest(unittest.TestCase):
    def test_the_end_by_hand(self):
        link = Link("client")
        peer = Peer(link, True, opened=False)
        self.assertEqual(peer.frames(30), [])
        self.assertEqual(peer.frames(), [("settings", False, ((2, 0),))])


if __name__ == "__main__":
    unittest.main()
