"""Frames as octets ([7.1] to [7.3]) and codes ([7.7])."""

import unittest

from ownanswer.framereader import FrameReader
from ownanswer.frames import CODES, code_of, frame_octets

MOST_STREAM = 2 ** 31 - 1
MOST = 2 ** 32 - 1


class FormsTest(unittest.TestCase):
    def all_are(self, *rows):
        for frame, start, payload in rows:
            sort, flags, stream = start
            size = len(payload)
            wanted = (size >> 16, (size >> 8) % 256, size % 256, sort, flags) + stream + payload
            self.assertEqual(frame_octets(frame), wanted, frame)
            self.assertIsInstance(frame_octets(frame), tuple)
            reader = FrameReader()
            reader.set_most(2 ** 24)
            self.assertEqual(reader.take(wanted)[:1], [("frame", frame)])

    def test_the_example(self):
        self.assertEqual(frame_octets(("window", 3, 5)), (0, 0, 4, 8, 0, 0, 0, 0, 3, 0, 0, 0, 5))

    def test_data(self):
        one, top = (0, 0, 0, 1), (127, 255, 255, 255)
        self.all_are(
            (("data", 1, False, (), None), (0, 0, one), ()), (("data", MOST_STREAM, True, (0, 255), None), (0, 1, top), (0, 255)),
            (("data", 1, False, (), 0), (0, 8, one), (0,)), (("data", 1, True, (7,), 0), (0, 9, one), (0, 7)),
            (("data", 1, True, (7, 8), 3), (0, 9, one), (3, 7, 8, 0, 0, 0)), (("data", 1, False, (), 255), (0, 8, one), (255,) + (0,) * 255),
            (("data", 256, False, (1,) * 70000, None), (0, 0, (0, 0, 1, 0)), (1,) * 70000),
        )

    def test_head(self):
        one, top = (0, 0, 0, 1), (127, 255, 255, 255)
        for end in (False, True):
            for whole in (False, True):
                flags = (1 if end else 0) + (4 if whole else 0)
                self.all_are(
                    (("head", 1, end, whole, None, (), None), (1, flags, one), ()),
                    (("head", MOST_STREAM, end, whole, None, (1, 2), None), (1, flags, top), (1, 2)),
                    (("head", 1, end, whole, None, (1,), 0), (1, flags + 8, one), (0, 1)),
                    (("head", 1, end, whole, None, (1,), 2), (1, flags + 8, one), (2, 1, 0, 0)),
                    (("head", 1, end, whole, None, (), 255), (1, flags + 8, one), (255,) + (0,) * 255),
                    (("head", 1, end, whole, (False, 0, 1), (9,), None), (1, flags + 32, one), (0, 0, 0, 0, 0, 9)),
                    (("head", 1, end, whole, (True, MOST_STREAM, 256), (), None), (1, flags + 32, one), (255, 255, 255, 255, 255)),
                    (("head", 1, end, whole, (True, 3, 16), (9,), 1), (1, flags + 40, one), (1, 128, 0, 0, 3, 15, 9, 0)),
                )

    def test_part(self):
        self.all_are(
            (("part", 1, (False, 0, 1)), (2, 0, (0, 0, 0, 1)), (0, 0, 0, 0, 0)),
            (("part", 2, (True, 0, 16)), (2, 0, (0, 0, 0, 2)), (128, 0, 0, 0, 15)),
            (("part", MOST_STREAM, (True, MOST_STREAM - 1, 256)), (2, 0, (127, 255, 255, 255)), (255, 255, 255, 254, 255)),
            (("part", 1, (False, 66051, 2)), (2, 0, (0, 0, 0, 1)), (0, 1, 2, 3, 1)),
        )

    def test_reset(self):
        self.all_are((("reset", 1, 0), (3, 0, (0, 0, 0, 1)), (0, 0, 0, 0)), (("reset", MOST_STREAM, MOST), (3, 0, (127, 255, 255, 255)), (255,) * 4),
                     (("reset", 16909060, 8), (3, 0, (1, 2, 3, 4)), (0, 0, 0, 8)))

    def test_settings(self):
        line = (0, 0, 0, 0)
        self.all_are((("settings", False, ()), (4, 0, line), ()), (("settings", True, ()), (4, 1, line), ()),
                     (("settings", False, ((2, 0),)), (4, 0, line), (0, 2, 0, 0, 0, 0)),
                     (("settings", False, ((65535, MOST), (0, 0), (258, 16909060))), (4, 0, line), (255,) * 6 + (0,) * 6 + (1, 2, 1, 2, 3, 4)))

    def test_promise(self):
        one = (0, 0, 0, 1)
        self.all_are(
            (("promise", 1, False, 0, (), None), (5, 0, one), (0, 0, 0, 0)), (("promise", 1, True, MOST_STREAM, (1,), None), (5, 4, one), (127, 255, 255, 255, 1)),
            (("promise", 1, True, 2, (1,), 0), (5, 12, one), (0, 0, 0, 0, 2, 1)), (("promise", 1, False, 2, (1,), 2), (5, 8, one), (2, 0, 0, 0, 2, 1, 0, 0)),
            (("promise", 1, True, 1, (), 255), (5, 12, one), (255, 0, 0, 0, 1) + (0,) * 255),
        )

    def test_ping(self):
        line = (0, 0, 0, 0)
        self.all_are((("ping", False, (0,) * 8), (6, 0, line), (0,) * 8), (("ping", True, (1, 2, 3, 4, 5, 6, 7, 255)), (6, 1, line), (1, 2, 3, 4, 5, 6, 7, 255)))

    def test_away(self):
        line = (0, 0, 0, 0)
        self.all_are((("away", 0, 0, ()), (7, 0, line), (0,) * 8),
                     (("away", MOST_STREAM, MOST, (9, 8)), (7, 0, line), (127, 255, 255, 255, 255, 255, 255, 255, 9, 8)))

    def test_window(self):
        self.all_are((("window", 0, 1), (8, 0, (0, 0, 0, 0)), (0, 0, 0, 1)), (("window", MOST_STREAM, MOST_STREAM), (8, 0, (127, 255, 255, 255)), (127, 255, 255, 255)))

    def test_more(self):
        # Such a frame alone cannot be read.
        self.assertEqual(frame_octets(("more", 1, False, ())), (0, 0, 0, 9, 0, 0, 0, 0, 1))
        self.assertEqual(frame_octets(("more", MOST_STREAM, True, (5, 6))), (0, 0, 2, 9, 4, 127, 255, 255, 255, 5, 6))

    def test_other(self):
        self.all_are((("other", 10, 0, 0, ()), (10, 0, (0, 0, 0, 0)), ()), (("other", 255, 255, MOST_STREAM, (1,)), (255, 255, (127, 255, 255, 255)), (1,)),
                     (("other", 32, 9, 7, (0,) * 300), (32, 9, (0, 0, 0, 7)), (0,) * 300))

    def test_the_greatest_length(self):
        row = frame_octets(("data", 1, False, (1,) * (2 ** 24 - 1), None))
        self.assertEqual((row[:9], len(row)), ((255, 255, 255, 0, 0, 0, 0, 0, 1), 2 ** 24 + 8))


class CodesTest(unittest.TestCase):
    ROWS = ("none 0, value 1, stream 1, more 1, self 1, order 1, inner 2, flow 3, window 1, late 4, closed 5, size 6, pad 1, refused 7, gone 8, head 9, "
            "number 9, row 9, room 9, code 9, short 9, busy 11")

    def test_codes(self):
        wanted = {word: int(code) for word, code in (row.split(" ") for row in self.ROWS.split(", "))}
        self.assertIsInstance(CODES, dict)
        self.assertEqual(CODES, wanted)
        for word, code in wanted.items():
            self.assertEqual(code_of(word), code, word)

    def test_other_words(self):
        for word in ("", "lost", "opening", "Flow", "fault", "5"):
            self.assertEqual(code_of(word), 2, word)


if __name__ == "__main__":
    unittest.main()
