"""A link of version two: what is taken, told and answered ([9.6], [9.9], [8.3]), and that nothing depends on pieces."""

import random
import unittest

from support import octets, uneven
from support2 import ALL, ANSWER, ASK, OPENING, REPLY, SETTINGS, data, new_client, new_server, pairs, row_of

from ownanswer.link2 import Link
from ownanswer.packer import Packer

TRAILERS = pairs(("a", "b"))


class EventsTest(unittest.TestCase):
    def test_heads_bodies_and_ends(self):
        link, peer = new_server()
        peer.send_head(1, ASK)
        self.assertEqual(link.events(), [("head", 1, ASK, False)])
        peer.send(data(1, "one"), data(1, ""), data(1, "two", True))
        self.assertEqual(link.events(), [("body", 1, octets("one")), ("body", 1, octets("two")), ("end", 1)])
        peer.send_head(3, ASK, True)
        self.assertEqual(link.events(), [("head", 3, ASK, True), ("end", 3)])
        peer.send_head(5, ASK)
        peer.send_head(5, TRAILERS)
        peer.send(data(5, "", True))
        self.assertEqual(link.events(), [("head", 5, ASK, False), ("head", 5, TRAILERS, False), ("end", 5)])
        peer.send_head(7, ASK)
        peer.send_head(7, TRAILERS, True)
        self.assertEqual(link.events(), [("head", 7, ASK, False), ("head", 7, TRAILERS, True), ("end", 7)])
        self.assertEqual(link.events(), [])

    def test_a_client_hears_answers(self):
        link, peer = new_client()
        link.start(ASK, True)
        link.start(ASK, False)
        peer.frames()
        peer.send_head(3, REPLY)
        peer.send_head(1, REPLY, True)
        peer.send(data(3, "x", True))
        self.assertEqual(link.events(), [("head", 3, REPLY, False), ("head", 1, REPLY, True), ("end", 1), ("body", 3, octets("x")), ("end", 3)])

    def test_kinds(self):
        link, peer = new_server()
        peer.send_head(1, [])
        peer.send(data(1, "x", True))
        events = link.events()
        self.assertEqual(events, [("head", 1, [], False), ("body", 1, (120,)), ("end", 1)])
        self.assertIsInstance(events[0][2], list)
        events.append("x")
        self.assertEqual(link.events(), [])

    def test_lists_in_several_frames(self):
        link, peer = new_server()
        block = peer.packer.pack(ASK + TRAILERS)
        peer.send(("head", 1, True, False, None, block[:2], 5))
        self.assertEqual(link.events(), [])
        peer.send(("more", 1, False, block[2:3]), ("more", 1, False, ()))
        self.assertEqual(link.events(), [])
        peer.send(("more", 1, True, block[3:]))
        self.assertEqual(link.events(), [("head", 1, ASK + TRAILERS, True), ("end", 1)])

    def test_resets(self):
        link, peer = new_server()
        peer.send_head(1, ASK)
        peer.send_head(3, ASK, True)
        link.body(1, octets("x"), False)
        link.body(3, octets("x"), False)
        link.events()
        peer.send(("reset", 1, 0), ("reset", 3, 7), ("reset", 1, 0))
        self.assertEqual(link.events(), [("reset", 1, "reset"), ("reset", 3, "reset")])
        link.body(1, octets("y"), False)
        self.assertEqual(peer.frames(), [])

    def test_pings(self):
        link, peer = new_server()
        peer.send(("ping", False, (1, 2, 3, 4, 5, 6, 7, 255)), ("ping", True, (0,) * 8))
        self.assertEqual(peer.frames(), [("ping", True, (1, 2, 3, 4, 5, 6, 7, 255))])
        self.assertEqual(link.events(), [])

    def test_other_frames_are_left_out(self):
        link, peer = new_server()
        peer.send(("other", 10, 255, 0, ()), ("other", 255, 0, 7, (1,) * 50))
        self.assertEqual((peer.frames(), link.events(), link.is_over()), ([], [], False))

    def test_each_stops_behind_each_frame(self):
        link, peer = new_server(opened=False)
        row = OPENING + row_of([SETTINGS, peer.head(1, ASK), data(1, "x"), ("ping", False, (0,) * 8), data(1, "", True)])
        found = []
        for _ in link.each(row):
            found.append(link.events())
        self.assertEqual(found, [[], [("head", 1, ASK, False)], [("body", 1, octets("x"))], [], [("end", 1)]])
        found = []
        for octet in row_of([data(1, "y")]):
            for _ in link.each((octet,)):
                found.append(link.events())
        self.assertEqual(found, [[("reset", 1, "closed")]])

    def test_each_stops_behind_a_wrong_opening(self):
        link, peer = new_server(opened=False)
        self.assertEqual([link.events() for _ in link.each(OPENING[:5] + (0,) * 50)], [[("fault", "opening")]])
        self.assertEqual(list(link.each(OPENING)), [])

    def test_what_is_done_between_two_frames_counts_for_the_next_one(self):
        link, peer = new_server()
        row = row_of([peer.head(1, ASK), data(1, "x"), peer.head(3, ASK)])
        found = []
        for _ in link.each(row):
            found.extend(link.events())
            link.reset(1, "busy")
        self.assertEqual(found, [("head", 1, ASK, False), ("head", 3, ASK, False)])

    def test_each_and_take_stop_behind_a_fault(self):
        row = row_of([("ping", False, (0,) * 8), ("promise", 1, True, 2, (), None), ("ping", False, (0,) * 8)])
        for whole in (True, False):
            link, peer = new_client()
            count = 0
            if whole:
                link.take(row)
            else:
                for _ in link.each(row):
                    count += 1
                self.assertEqual(count, 2)
            self.assertEqual(peer.frames(), [("ping", True, (0,) * 8), ("away", 0, 1, ())])
            link.take(row)
            self.assertEqual(list(link.each(row)), [])
            self.assertEqual(peer.frames(), [])
            self.assertEqual(link.events(), [("fault", "value")])


class WindowsTest(unittest.TestCase):
    def test_data_are_answered(self):
        for pad, count in ((None, 3), (0, 4), (255, 259)):
            link, peer = new_server()
            peer.send_head(1, ASK)
            peer.send(data(1, "abc", pad=pad))
            self.assertEqual(peer.frames(), [("window", 0, count), ("window", 1, count)])
            peer.send(data(1, "abc", True, pad))
            self.assertEqual(peer.frames(), [("window", 0, count)])
            self.assertEqual(link.events()[1:], [("body", 1, octets("abc")), ("body", 1, octets("abc")), ("end", 1)])

    def test_padding_alone(self):
        link, peer = new_server()
        peer.send_head(1, ASK)
        peer.send(data(1, ""), data(1, "", pad=0), data(1, "", pad=9), data(1, "", True, 3), data(1, "", True))
        self.assertEqual(peer.frames(), [("window", 0, 1), ("window", 1, 1), ("window", 0, 10), ("window", 1, 10), ("window", 0, 4), ("reset", 1, 5)])
        self.assertEqual(link.events(), [("head", 1, ASK, False), ("end", 1), ("reset", 1, "closed")])

    def test_data_of_a_stream_that_this_end_has_ended(self):
        link, peer = new_server()
        peer.send_head(1, ASK)
        link.head(1, REPLY, True)
        peer.frames()
        peer.send(data(1, "ab"), data(1, "cd", True))
        self.assertEqual(peer.frames(), [("window", 0, 2), ("window", 1, 2), ("window", 0, 2)])

    def test_the_other_end_may_go_on_sending(self):
        link, peer = new_server()
        peer.send_head(1, ASK)
        for _ in range(20):
            peer.send(data(1, "x" * 16384))
        self.assertEqual(len([event for event in link.events() if event[0] == "body"]), 20)
        self.assertEqual(peer.frames(), [("window", stream, 16384) for _ in range(20) for stream in (0, 1)])

    def test_windows_of_closed_streams_count_for_nothing(self):
        link, peer = new_client()
        link.start(ASK, True)
        peer.frames()
        peer.send_head(1, REPLY, True)
        peer.send(("window", 1, 2 ** 31 - 1), ("window", 1, 2 ** 31 - 1))
        self.assertEqual((peer.frames(), link.events()[2:]), ([], []))

    def test_a_window_may_be_full(self):
        link, peer = new_client()
        link.start(ASK, False)
        peer.frames()
        peer.send(("window", 1, 2 ** 31 - 1 - 65535), ("window", 0, 2 ** 31 - 1 - 65535))
        self.assertEqual((peer.frames(), link.events(), link.is_over()), ([], [], False))


class SettingsTest(unittest.TestCase):
    def test_they_are_answered(self):
        link, peer = new_server()
        peer.send(("settings", False, ((1, 0), (2, 0), (3, 4), (4, 5), (5, 16384), (6, 7), (7, 8), (99, 2 ** 32 - 1))), SETTINGS)
        self.assertEqual(peer.frames(), [ANSWER, ANSWER])
        self.assertEqual(link.events(), [])

    def test_the_window_shifts_those_of_streams(self):
        link, peer = new_client()
        link.body(link.start(ASK, False), octets("x" * 60000), False)
        self.assertEqual(sum(len(frame[3]) for frame in peer.frames()[1:]), 60000)
        # 5535 octets of room are left to the line and to the stream; the first window is 10 now.
        peer.send(("settings", False, ((4, 10),)))
        link.body(1, octets("y" * 100), False)
        link.body(link.start(ASK, False), octets("z" * 100), False)
        self.assertEqual(peer.frames(), [ANSWER, ("head", 3, False, ASK), data(3, "z" * 10)])
        # The stream 1 has -59990; it gets room by windows and by settings.
        peer.send(("window", 1, 59990))
        self.assertEqual(peer.frames(), [])
        peer.send(("window", 1, 3))
        self.assertEqual(peer.frames(), [data(1, "yyy")])
        peer.send(("settings", False, ((4, 15),)))
        self.assertEqual(peer.frames(), [ANSWER, data(1, "y" * 5), data(3, "z" * 5)])
        peer.send(("settings", False, ((4, 2 ** 31 - 1),)))
        self.assertEqual(peer.frames(), [ANSWER, data(1, "y" * 92), data(3, "z" * 85)])

    def test_the_window_of_the_line_is_not_shifted(self):
        link, peer = new_client(opened=False)
        peer.send(("settings", False, ((4, 2 ** 31 - 1),)))
        peer.frames()
        link.body(link.start(ASK, False), octets("x" * 70000), True)
        self.assertEqual(sum(len(frame[3]) for frame in peer.frames()[1:]), 65535)

    def test_streams_that_wait_begin_with_the_last_window(self):
        link, peer = new_client(opened=False)
        peer.send(("settings", False, ((3, 0), (4, 7))))
        link.body(link.start(ASK, False), octets("x" * 100), True)
        peer.send(("settings", False, ((3, 1), (4, 9))))
        self.assertEqual(peer.frames()[-2:], [("head", 1, False, ASK), data(1, "x" * 9)])

    def test_changes_hold_from_the_answer_on(self):
        link, peer = new_server()
        link.change(((4, 5),))
        self.assertEqual(peer.frames(), [("settings", False, ((4, 5),))])
        peer.send(ANSWER)
        peer.send_head(1, ASK)
        # The first answer was that to the opening.
        peer.send(data(1, "x" * 6), ANSWER)
        self.assertEqual(peer.frames(), [("window", 0, 6), ("window", 1, 6)])
        self.assertEqual(link.events(), [("head", 1, ASK, False), ("body", 1, octets("x" * 6))])
        peer.send(data(1, "x" * 5), data(1, "x" * 5), data(1, "x" * 6))
        self.assertEqual(peer.frames(), [("window", 0, 5), ("window", 1, 5)] * 2 + [("window", 0, 6), ("reset", 1, 3)])
        self.assertEqual(link.events()[-1], ("reset", 1, "flow"))
        peer.send_head(3, ASK)
        peer.send(data(3, "x" * 6))
        self.assertEqual(link.events()[-1], ("reset", 3, "flow"))

    def test_several_changes_are_answered_in_their_order(self):
        link, peer = new_server()
        link.change(((4, 5), (4, 6)))
        link.change([(4, 8)])
        peer.send_head(1, ASK)
        peer.send_head(3, ASK)
        peer.send(ANSWER, ANSWER, data(1, "x" * 6), data(1, "x" * 7))
        self.assertEqual(link.events()[2:], [("body", 1, octets("x" * 6)), ("reset", 1, "flow")])
        peer.send(ANSWER, data(3, "x" * 8), data(3, "x" * 9))
        self.assertEqual(link.events(), [("body", 3, octets("x" * 8)), ("reset", 3, "flow")])
        # An answer to nothing.
        peer.send(ANSWER)
        self.assertFalse(link.is_over())

    def test_a_change_of_most(self):
        for answers, wanted in ((1, "size"), (2, None)):
            link, peer = new_server()
            link.change(((5, 16385),))
            peer.send_head(1, ASK)
            peer.send(*[ANSWER] * answers, data(1, "x" * 16385))
            self.assertEqual(link.events()[1:], [("body", 1, octets("x" * 16385))] if wanted is None else [("reset", 1, "lost"), ("fault", wanted)])
        link, peer = new_server()
        link.change(((5, 20000),))
        link.change(((5, 16384),))
        peer.send(ANSWER, ANSWER, ("other", 99, 0, 0, (0,) * 20000), ANSWER, ("other", 99, 0, 0, (0,) * 16385))
        self.assertEqual(link.events(), [("fault", "size")])

    def test_a_change_of_the_room(self):
        for answers in (0, 1, 2):
            link, peer = new_server()
            link.change(((1, 50),))
            peer.send(*[ANSWER] * answers)
            peer.send_head(1, ASK)
            self.assertEqual(link.events(), [("fault", "room")] if answers == 2 else [("head", 1, ASK, False)])
        link, peer = new_server()
        link.change(((1, 50),))
        peer.send(ANSWER, ANSWER)
        peer.packer.set_limit(50)
        peer.send_head(1, ASK)
        link.change(((1, 4096),))
        peer.send(ANSWER)
        peer.packer.set_limit(4096)
        peer.packer.set_room(1000)
        peer.send_head(3, ASK)
        self.assertEqual([event[:3] for event in link.events()], [("head", 1, ASK), ("head", 3, ASK)])

    def test_the_room_that_the_other_end_tells(self):
        link, peer = new_client()
        for room, begin in ((40, (63, 9)), (0, (32,)), (4096, ())):
            peer.send(("settings", False, ((1, room),)))
            packer = Packer(4096)
            link.start(pairs(("x-y", "value")), True)
            row = link.give(ALL)
            self.assertEqual(row[:9], row_of([ANSWER]))
            block = row[18:]
            self.assertEqual(block[:len(begin)] if begin else block[:1], begin or packer.pack(pairs(("x-y", "value")))[:1])
            peer.unpacker.set_limit(room)
            self.assertEqual(peer.unpacker.unpack(block), pairs(("x-y", "value")))
            self.assertLessEqual(peer.unpacker.table().room(), room)

    def test_a_clients_own_settings(self):
        link, peer = new_client()
        link.change(((4, 3),))
        link.start(ASK, True)
        self.assertEqual(peer.frames(), [("settings", False, ((4, 3),)), ("head", 1, True, ASK)])
        peer.send(ANSWER, ANSWER)
        peer.send_head(1, REPLY)
        peer.send(data(1, "xyz"), data(1, "wxyz"))
        self.assertEqual(link.events()[1:], [("body", 1, octets("xyz")), ("reset", 1, "flow")])


class AwayTest(unittest.TestCase):
    def test_streams_above_the_last_one(self):
        link, peer = new_client()
        for _ in range(4):
            link.start(ASK, False)
        peer.frames()
        peer.send(("away", 3, 0, octets("why")))
        self.assertEqual(link.events(), [("reset", 5, "refused"), ("reset", 7, "refused")])
        link.body(1, octets("x"), True)
        link.body(5, octets("y"), True)
        self.assertEqual([frame for frame in peer.frames() if frame[0] != "reset"], [data(1, "x", True)])
        peer.send_head(3, REPLY, True)
        self.assertEqual(link.events(), [("head", 3, REPLY, True), ("end", 3)])
        self.assertFalse(link.is_over())

    def test_no_more_streams(self):
        link, peer = new_client()
        link.start(ASK, True)
        peer.frames()
        peer.send(("away", 2 ** 31 - 1, 0, ()))
        self.assertEqual(link.events(), [])
        self.assertEqual([link.start(ASK, False), link.start(ASK, False)], [3, 5])
        self.assertEqual(link.events(), [("reset", 3, "refused"), ("reset", 5, "refused")])
        link.body(3, octets("x"), True)
        self.assertEqual(peer.frames(), [])
        # They are closed by this end: what comes for them is left out.
        peer.send(("window", 3, 5), ("reset", 5, 0), data(5, "x"))
        self.assertEqual((peer.frames(), link.events(), link.is_over()), ([("window", 0, 1)], [], False))

    def test_streams_that_wait(self):
        link, peer = new_client(opened=False)
        peer.send(("settings", False, ((3, 1),)))
        for _ in range(3):
            link.start(ASK, True)
        peer.frames()
        peer.send(("away", 1, 0, ()))
        self.assertEqual(link.events(), [("reset", 3, "refused"), ("reset", 5, "refused")])
        peer.send_head(1, REPLY, True)
        self.assertEqual(peer.frames(), [])

    def test_away_again(self):
        link, peer = new_client()
        for _ in range(3):
            link.start(ASK, True)
        peer.frames()
        peer.send(("away", 5, 0, ()), ("away", 1, 0, ()), ("away", 0, 0, ()))
        self.assertEqual(link.events(), [("reset", 3, "refused"), ("reset", 5, "refused"), ("reset", 1, "refused")])

    def test_streams_of_the_other_end_go_on(self):
        link, peer = new_server()
        peer.send_head(1, ASK)
        peer.send(("away", 0, 0, ()), data(1, "x", True))
        peer.send_head(3, ASK)
        self.assertEqual([event[:2] for event in link.events()], [("head", 1), ("body", 1), ("end", 1), ("head", 3)])


class ShutTest(unittest.TestCase):
    def test_open_streams_are_lost(self):
        link, peer = new_client()
        for _ in range(4):
            link.start(ASK, False)
        peer.frames(60)
        peer.send_head(3, REPLY, True)
        link.head(3, pairs(("a", "b")), True)
        link.reset(5, "busy")
        peer.frames()
        link.events()
        link.shut()
        self.assertEqual(link.events(), [("reset", 1, "lost"), ("reset", 7, "lost")])
        self.assertFalse(link.is_over())
        link.shut()
        self.assertEqual(link.events(), [])

    def test_start_behind_it(self):
        link, peer = new_client()
        link.shut()
        self.assertEqual(link.start(ASK, False), 1)
        self.assertEqual(link.events(), [("reset", 1, "lost")])
        link.body(1, octets("x"), True)
        self.assertEqual(peer.frames(), [])

    def test_start_behind_a_fault(self):
        link, peer = new_client()
        link.start(ASK, True)
        peer.frames()
        peer.send(("promise", 1, True, 2, (), None))
        self.assertEqual(link.start(ASK, False), 3)
        self.assertEqual(link.events(), [("reset", 1, "lost"), ("fault", "value"), ("reset", 3, "lost")])
        self.assertTrue(link.is_over())
        self.assertEqual(peer.frames(), [("away", 0, 1, ())])

    def test_start_behind_away_and_shut(self):
        link, peer = new_client()
        peer.send(("away", 0, 0, ()))
        link.shut()
        link.start(ASK, True)
        self.assertEqual(link.events(), [("reset", 1, "lost")])

    def test_nothing_is_taken_behind_it(self):
        link, peer = new_server()
        link.shut()
        peer.send(("ping", False, (0,) * 8), SETTINGS)
        peer.send_head(1, ASK)
        self.assertEqual((peer.frames(), link.events()), ([], []))

    def test_what_was_put_out_is_still_given(self):
        link, peer = new_client()
        link.start(ASK, True)
        frames = peer.frames(1)
        link.shut()
        self.assertEqual(frames + peer.frames(), [("head", 1, True, ASK)])

    def test_a_server(self):
        link, peer = new_server()
        peer.send_head(1, ASK, True)
        peer.send_head(3, ASK)
        link.head(1, REPLY, True)
        link.events()
        link.shut()
        self.assertEqual(link.events(), [("reset", 1, "lost"), ("reset", 3, "lost")])
        self.assertEqual(peer.frames(), [])


def random_frames(chance, is_client):
    """Frames that the other end of a link may send, right ones for the most part, as octets."""
    packer = Packer(4096)
    frames = [("settings", False, ((4, chance.choice((3, 100, 65535))),))]
    for _ in range(chance.randrange(60)):
        stream = chance.choice((1, 3, 5, 7, 9))
        last = chance.randrange(4) == 0
        kind = chance.randrange(40)
        block = packer.pack(ASK + pairs((chance.choice("abc"), "v")))
        if kind < 12:
            cut = chance.randrange(len(block) + 1)
            pad = chance.choice((None, 0, 7))
            frames.append(("head", stream, last, False, chance.choice((None, (False, 0, 9))), block[:cut], pad))
            frames.append(("more", stream, True, block[cut:]))
        elif kind < 24:
            frames.append(("data", stream, last, (kind,) * chance.randrange(9), chance.choice((None, 0, 3))))
        elif kind < 28:
            frames.append(("window", chance.choice((0, stream)), chance.choice((1, 50, 2 ** 31 - 1 - 65535))))
        elif kind < 31:
            frames.append(("settings", False, ((4, chance.choice((0, 9, 65535, 70000))), (1, chance.choice((0, 100, 4096))))))
        else:
            frames.append(chance.choice((ANSWER, ("ping", False, (kind,) * 8), ("part", stream, (False, 0, 5)), ("other", 99, 1, 2, (3,)),
                                         ("reset", stream, 0), ("away", stream, 0, ()), ANSWER)))
    return (() if is_client else OPENING) + row_of(frames)


class PiecesTest(unittest.TestCase):
    def run_pieces(self, side, pieces, by_each):
        link = Link(side)
        link.change(((4, 20), (1, 4096)))
        for _ in range(5 if side == "client" else 0):
            link.body(link.start(ASK, False), octets("x" * 100), False)
        if side == "client":
            link.give(10000)
        events = []
        for piece in pieces:
            if by_each:
                for _ in link.each(piece):
                    events.extend(link.events())
            else:
                link.take(piece)
                events.extend(link.events())
        return events, link.give(ALL), link.is_over()

    def test_pieces_do_not_count(self):
        faults = set()
        for seed in range(150):
            chance = random.Random(seed)
            side = chance.choice(("client", "server"))
            row = random_frames(chance, side == "client")
            whole = self.run_pieces(side, [row], False)
            faults.update(event[-1] for event in whole[0] if event[0] in ("fault", "reset"))
            for pieces in ([row], [(octet,) for octet in row], [list(piece) for piece in uneven(row, seed)]):
                for by_each in (True, False):
                    self.assertEqual(self.run_pieces(side, pieces, by_each), whole)
        self.assertLessEqual({"order", "closed", "reset", "lost", "flow", "refused"}, faults)


if __name__ == "__main__":
    unittest.main()
