"""A link of version two: the faults of the line and of a stream ([9.7], [9.8])."""

import unittest

from support import octets
from support2 import ANSWER, ASK, REPLY, SETTINGS, data, new_client, new_server, pairs, row_of

from ownanswer.frames import CODES, frame_octets

MOST = 2 ** 31 - 1
TRAILERS = pairs(("a", "b"))


def whole(stream, block, last=False):
    return ("head", stream, last, True, None, block, None)


class LineTest(unittest.TestCase):
    def ends(self, link, peer, word, greatest=0, lost=()):
        """The line has ended with this word; nothing is taken any more."""
        self.assertEqual(peer.frames(), [("away", greatest, CODES[word], ())])
        self.assertEqual(link.events(), [("reset", stream, "lost") for stream in lost] + [("fault", word)])
        self.assertTrue(link.is_over())
        peer.send(("ping", False, (0,) * 8), SETTINGS)
        peer.send_head(99, ASK, True)
        link.shut()
        self.assertEqual((peer.frames(), link.events(), link.is_over()), ([], [], True))

    def test_faults_of_frames(self):
        for word, row in (("size", (0, 64, 1, 99, 0, 0, 0, 0, 0)), ("size", (0, 0, 1, 6, 0, 0, 0, 0, 0)), ("stream", (0, 0, 0, 0, 0, 0, 0, 0, 0)),
                          ("more", (0, 0, 0, 9, 4, 0, 0, 0, 1)), ("more", frame_octets(("head", 1, False, False, None, (), None)) + row_of([SETTINGS])),
                          ("pad", (0, 0, 0, 1, 8, 0, 0, 0, 1)), ("window", row_of([("window", 0, 0)])), ("self", row_of([("part", 1, (False, 1, 5))]))):
            link, peer = new_server()
            peer.send_row(row)
            self.ends(link, peer, word)

    def test_faults_of_head_tables(self):
        for word, block in (("row", (128,)), ("room", (63, 226, 31)), ("number", (255,) * 6), ("code", (64, 129, 255)), ("short", (64,))):
            link, peer = new_server()
            peer.send_head(1, ASK)
            link.events()
            peer.send(whole(3, block))
            self.ends(link, peer, word, 1, (1,))
            link, peer = new_client()
            link.start(ASK, True)
            peer.frames()
            peer.send(("head", 1, False, False, None, block[:1], None), ("more", 1, True, block[1:]))
            self.ends(link, peer, word, 0, (1,))

    def test_streams_that_a_client_may_not_open(self):
        for opened, stream in (((), 2), ((), 4), ((1, 3), 4), ((3,), 1), ((1, 7), 5), ((5,), 2)):
            for is_whole in (True, False):
                link, peer = new_server()
                for number in opened:
                    peer.send_head(number, ASK)
                link.events()
                peer.send(("head", stream, False, is_whole, None, peer.packer.pack(ASK), None))
                self.ends(link, peer, "order", max(opened, default=0), opened)

    def test_streams_that_a_server_opens(self):
        for stream in (1, 2, 3, 99):
            for started in (False, True):
                link, peer = new_client()
                if started and stream == 3:
                    # It waits, but it is not opened.
                    link.start(ASK, True)
                    link.start(ASK, True)
                    peer.frames(1)
                peer.send_head(stream, REPLY)
                row = peer.frames()
                self.assertEqual(row[-1], ("away", 0, 1, ()))
                self.assertEqual(link.events()[-1], ("fault", "order"))

    def test_what_comes_for_idle_streams(self):
        for frame in (data(3, "x"), data(3, ""), data(3, "", True), ("reset", 3, 0), ("window", 3, 5), data(2, "x"), ("window", 4, 1), ("reset", 6, 1)):
            link, peer = new_server()
            peer.send_head(1, ASK)
            link.events()
            peer.send(frame)
            self.ends(link, peer, "order", 1, (1,))
            link, peer = new_client()
            link.start(ASK, True)
            peer.frames()
            link.start(ASK, True)
            peer.send(frame)
            self.ends(link, peer, "order", 0, (1, 3))

    def test_streams_that_were_passed_over_are_idle(self):
        link, peer = new_server()
        peer.send_head(5, ASK)
        link.events()
        peer.send(("window", 3, 1))
        self.ends(link, peer, "order", 5, (5,))

    def test_promises(self):
        for frame in (("promise", 1, True, 2, (), None), ("promise", 1, False, 2, (), 3), ("promise", 8, True, 0, (130,), None)):
            for new in (new_client, new_server):
                link, peer = new()
                peer.send(frame)
                self.ends(link, peer, "value")

    def test_faults_of_settings(self):
        for word, given in (("value", ((2, 2),)), ("value", ((5, 16383),)), ("value", ((5, 2 ** 24),)), ("flow", ((4, 2 ** 31),)),
                            ("value", ((4, 5), (2, 9))), ("flow", ((4, MOST + 1), (2, 9)))):
            link, peer = new_client()
            link.body(link.start(ASK, False), octets("x"), False)
            peer.frames()
            peer.send(("settings", False, given))
            self.ends(link, peer, word, 0, (1,))

    def test_the_window_of_the_line_is_too_great(self):
        for amounts in ((MOST,), (MOST - 65535, 1), (1, MOST - 65535)):
            link, peer = new_server()
            for amount in amounts[:-1]:
                peer.send(("window", 0, amount))
            self.assertEqual(peer.frames(), [])
            peer.send(("window", 0, amounts[-1]))
            self.ends(link, peer, "flow")

    def test_data_above_the_window_of_the_line(self):
        for size, pad, right in ((65535, None, True), (65536, None, False), (65535 - 8, 7, True), (65535 - 8, 8, False), (65534, 0, True), (65535, 0, False)):
            for last in (True, False):
                link, peer = new_server()
                link.change(((5, 100000), (4, 100000)))
                peer.send(ANSWER, ANSWER)
                peer.send_head(1, ASK)
                peer.frames()
                link.events()
                peer.send(data(1, "x" * size, last, pad))
                if right:
                    self.assertEqual(link.events()[0], ("body", 1, octets("x" * size)))
                    self.assertEqual(peer.frames()[0], ("window", 0, 65535))
                else:
                    self.ends(link, peer, "flow", 1, (1,))

    def test_queues_are_not_put_out(self):
        link, peer = new_client()
        for _ in range(3):
            link.body(link.start(ASK, False), octets("x" * 100), True)
        frames = peer.frames(1)
        peer.send(("ping", False, (0,) * 8), ("promise", 1, True, 2, (), None))
        self.assertEqual(frames + peer.frames(), [("head", 1, False, ASK), ("ping", True, (0,) * 8), ("away", 0, 1, ())])
        self.assertEqual(link.events(), [("reset", 1, "lost"), ("reset", 3, "lost"), ("reset", 5, "lost"), ("fault", "value")])
        link.body(1, octets("x"), True)
        link.reset(1, "busy")
        self.assertEqual(peer.frames(), [])

    def test_closed_streams_are_not_lost(self):
        link, peer = new_server()
        for stream in (1, 3, 5, 7):
            peer.send_head(stream, ASK, True)
        link.head(3, REPLY, True)
        link.reset(5, "busy")
        peer.send(("reset", 7, 0))
        peer.frames()
        link.events()
        peer.send(("promise", 1, True, 2, (), None))
        self.ends(link, peer, "value", 7, (1,))

    def test_the_greatest_stream(self):
        link, peer = new_server()
        peer.send_head(9, ASK, True)
        link.head(9, REPLY, True)
        peer.frames()
        link.events()
        peer.send(("window", 0, MOST))
        self.ends(link, peer, "flow", 9)


class StreamTest(unittest.TestCase):
    def half(self):
        """A server's link with the streams 1, which the client has ended, and 3, which goes on."""
        link, peer = new_server()
        peer.send_head(1, ASK, True)
        peer.send_head(3, ASK)
        link.events()
        return link, peer

    def goes_on(self, link, peer, stream=3):
        """Another stream is dealt with as ever."""
        peer.send(data(stream, "more"))
        peer.send_head(stream, TRAILERS, True)
        link.head(stream, REPLY, True)
        self.assertEqual(link.events(), [("body", stream, octets("more")), ("head", stream, TRAILERS, True), ("end", stream)])
        self.assertEqual(peer.frames(), [("window", 0, 4), ("window", stream, 4), ("head", stream, True, REPLY)])
        self.assertFalse(link.is_over())

    def test_what_comes_behind_an_end(self):
        for kind in ("data", "end", "nothing", "head", "last"):
            link, peer = self.half()
            if kind in ("head", "last"):
                peer.send_head(1, TRAILERS, kind == "last")
            else:
                peer.send(data(1, "" if kind == "nothing" else "xyz", kind == "end"))
            windows = [("window", 0, 3)] if kind in ("data", "end") else []
            self.assertEqual(peer.frames(), windows + [("reset", 1, 5)], kind)
            self.assertEqual(link.events(), [("reset", 1, "closed")])
            # What this end would have sent is gone, and what comes is left out.
            link.head(1, REPLY, True)
            peer.send(data(1, "x"), ("window", 1, 1), ("reset", 1, 0), ("part", 1, (False, 0, 3)), ("window", 1, MOST))
            peer.send_head(1, TRAILERS, True)
            self.assertEqual((peer.frames(), link.events()), ([("window", 0, 1)], []))
            self.goes_on(link, peer)

    def test_what_comes_for_closed_streams(self):
        for how in ("ended", "ended by the other end", "reset"):
            for kind in ("data", "head"):
                link, peer = self.half()
                if how == "ended":
                    link.head(1, REPLY, True)
                elif how == "reset":
                    peer.send(("reset", 1, 0))
                else:
                    link, peer = new_server()
                    peer.send_head(1, ASK)
                    peer.send_head(3, ASK)
                    link.head(1, REPLY, True)
                    peer.frames()
                    peer.send(data(1, "", True))
                peer.frames()
                link.events()
                peer.send(("window", 1, 5), ("reset", 1, 0), ("part", 1, (False, 0, 3)))
                self.assertEqual((peer.frames(), link.events()), ([], []))
                if kind == "head":
                    peer.send_head(1, TRAILERS)
                else:
                    peer.send(data(1, "x"))
                self.assertEqual(peer.frames()[-1], ("reset", 1, 5))
                self.assertEqual(link.events(), [("reset", 1, "closed")])
                peer.send(data(1, "x"))
                self.assertEqual((peer.frames(), link.events()), ([("window", 0, 1)], []))
                self.goes_on(link, peer)

    def test_an_answer_behind_its_end(self):
        link, peer = new_client()
        for _ in range(2):
            link.start(ASK, False)
        peer.frames()
        peer.send_head(1, REPLY, True)
        peer.send_head(3, REPLY)
        link.events()
        peer.send(data(1, "x"))
        self.assertEqual(link.events(), [("reset", 1, "closed")])
        self.assertEqual(peer.frames(), [("window", 0, 1), ("reset", 1, 5)])
        peer.send(data(3, "x", True))
        self.assertEqual(link.events(), [("body", 3, octets("x")), ("end", 3)])

    def test_data_above_the_window_of_a_stream(self):
        for size, pad, right in ((5, None, True), (6, None, False), (0, 4, True), (0, 5, False), (4, 0, True), (5, 0, False)):
            for last in (True, False):
                link, peer = new_server()
                link.change(((4, 5),))
                peer.send(ANSWER, ANSWER)
                peer.send_head(1, ASK)
                peer.send_head(3, ASK)
                peer.frames()
                link.events()
                peer.send(data(1, "x" * size, last, pad))
                count = size + (0 if pad is None else pad + 1)
                if right:
                    self.assertEqual(peer.frames(), [("window", 0, count)] + [("window", 1, count)] * (not last))
                else:
                    self.assertEqual(peer.frames(), [("window", 0, count), ("reset", 1, 3)])
                    self.assertEqual(link.events(), [("reset", 1, "flow")])
                    link.events()
                link.events()
                self.goes_on(link, peer)

    def test_a_window_that_grows_too_much(self):
        for amounts in ((MOST,), (MOST - 65535, 1)):
            link, peer = self.half()
            peer.send(*[("window", 1, amount) for amount in amounts])
            self.assertEqual(peer.frames(), [("reset", 1, 3)])
            self.assertEqual(link.events(), [("reset", 1, "flow")])
            peer.send(("window", 1, 1))
            self.goes_on(link, peer)

    def test_a_window_of_a_stream_on_which_nothing_is_sent_any_more(self):
        link, peer = self.half()
        link.head(3, REPLY, True)
        peer.frames()
        peer.send(("window", 3, MOST))
        self.assertEqual(peer.frames(), [("reset", 3, 3)])
        self.assertEqual(link.events(), [("reset", 3, "flow")])

    def test_a_window_that_is_shifted_too_much(self):
        link, peer = new_server()
        for stream in (1, 3, 5, 7):
            peer.send_head(stream, ASK)
        peer.send(("window", 1, MOST - 65535), ("window", 3, MOST - 65536), ("window", 7, MOST - 65535))
        peer.frames()
        link.events()
        peer.send(("settings", False, ((4, 65536),)))
        frames = peer.frames()
        self.assertCountEqual(frames, [ANSWER, ("reset", 1, 3), ("reset", 7, 3)])
        self.assertEqual(link.events(), [("reset", 1, "flow"), ("reset", 7, "flow")])
        peer.send(("settings", False, ((4, 65537),)))
        self.assertEqual(link.events(), [("reset", 3, "flow")])
        peer.frames()
        self.goes_on(link, peer, 5)

    def test_lists_for_streams_that_are_left_out_are_unpacked(self):
        link, peer = new_server()
        peer.send_head(1, ASK)
        link.reset(1, "busy")
        peer.frames()
        link.events()
        # It adds a row, which the next list names by its number.
        peer.send_head(1, pairs(("x-new", "value")), True)
        block = peer.packer.pack(pairs(("x-new", "value")))
        self.assertEqual(len(block), 1)
        peer.send(whole(3, block))
        self.assertEqual(link.events(), [("head", 3, pairs(("x-new", "value")), False)])
        peer.send(whole(1, (128,)))
        self.assertEqual(link.events(), [("reset", 3, "lost"), ("fault", "row")])

    def test_data_for_streams_that_are_left_out_count_for_the_line(self):
        link, peer = new_server()
        link.change(((5, 100000),))
        peer.send(ANSWER, ANSWER)
        peer.send_head(1, ASK)
        link.reset(1, "busy")
        peer.frames()
        link.events()
        peer.send(data(1, "x" * 65535), data(1, "x", True, 4), data(1, "y"))
        self.assertEqual(peer.frames(), [("window", 0, 65535), ("window", 0, 6), ("window", 0, 1)])
        self.assertEqual((link.events(), link.is_over()), ([], False))
        peer.send(data(1, "x" * 65536))
        self.assertEqual(link.events(), [("fault", "flow")])

    def test_a_reset_in_the_middle_of_a_list(self):
        link, peer = new_server()
        peer.send_head(1, ASK)
        block = peer.packer.pack(TRAILERS)
        peer.send(("head", 1, True, False, None, block[:1], None))
        link.reset(1, "busy")
        peer.send(("more", 1, True, block[1:]))
        self.assertEqual(link.events(), [("head", 1, ASK, False)])
        self.assertEqual(peer.frames(), [("reset", 1, 11)])


if __name__ == "__main__":
    unittest.main()
