"""Reading frames ([7.1], [7.2], [7.4], [7.5])."""

import random
import unittest

from support import uneven

from ownanswer.framereader import FrameReader
from ownanswer.frames import frame_octets

MOST_STREAM = 2 ** 31 - 1
SORTS = ("data", "head", "part", "reset", "settings", "promise", "ping", "away", "window", "more")


def raw(sort, flags, stream, payload=(), size=None):
    """The octets of a frame, right or wrong."""
    size = len(payload) if size is None else size
    return tuple(size.to_bytes(3, "big")) + (sort, flags) + tuple(stream.to_bytes(4, "big")) + tuple(payload)


def told(pieces, most=16384):
    reader = FrameReader()
    reader.set_most(most)
    return [event for piece in pieces for event in reader.take(piece)]


def told_alike(case, row, most=16384):
    """The events of octets in one piece; the same come of single octets and of uneven pieces."""
    events = told([row], most)
    case.assertEqual(told([(octet,) for octet in row], most), events)
    case.assertEqual(told([list(piece) for piece in uneven(row, len(row))], most), events)
    return events


def found_at(row):
    """How many octets it takes until the last event of them is told."""
    reader = FrameReader()
    at = 0
    for count, octet in enumerate(row, 1):
        if reader.take((octet,)):
            at = count
    return at


OPEN_HEAD = ("head", 5, True, False, None, (1, 2), None)
OPEN_PROMISE = ("promise", 5, False, 6, (1, 2), None)
MORE = ("more", 5, False, (3,))
LAST_MORE = ("more", 5, True, ())
PING = ("ping", False, (1,) * 8)
FRAMES = (
    ("data", 1, True, (1, 2, 3), None), ("data", MOST_STREAM, False, (), 0), ("data", 3, False, (9,), 255),
    ("head", 1, True, True, None, (), None), ("head", 1, False, True, (True, 0, 256), (1, 2), 7), ("head", 3, True, True, (False, 1, 1), (), None),
    ("part", 1, (True, MOST_STREAM, 16)), ("part", 1, (False, MOST_STREAM, 256)), ("reset", 7, 2 ** 32 - 1), ("settings", False, ((1, 2), (65535, 2 ** 32 - 1))), ("settings", True, ()),
    ("settings", False, ()), ("promise", 1, True, 2, (4,), None), ("promise", 1, True, 0, (), 3), ("ping", True, (0,) * 8), PING,
    ("away", 0, 0, ()), ("away", MOST_STREAM, 2 ** 32 - 1, (1, 2, 3)), ("window", 0, 1), ("window", MOST_STREAM, MOST_STREAM),
    OPEN_HEAD, MORE, MORE, LAST_MORE, OPEN_PROMISE, LAST_MORE, ("other", 10, 0, 0, ()), ("other", 255, 255, MOST_STREAM, (1, 2, 3)),
)


class FramesTest(unittest.TestCase):
    def test_every_frame(self):
        row = tuple(octet for frame in FRAMES for octet in frame_octets(frame))
        self.assertEqual(told_alike(self, row), [("frame", frame) for frame in FRAMES])

    def test_a_frame_is_told_with_its_last_octet(self):
        for frame in FRAMES:
            if frame[0] != "more":
                row = frame_octets(frame)
                self.assertEqual(told([row[:-1]]), [])
                self.assertEqual(found_at(row), len(row))

    def test_nothing(self):
        self.assertEqual(told([(), [], ()]), [])

    def test_kinds(self):
        reader = FrameReader()
        row = list(frame_octets(("head", 1, True, True, (True, 3, 5), (1,), 2)))
        events = reader.take(row)
        self.assertIsInstance(events, list)
        frame = events[0][1]
        for part, kind in zip(frame, (str, int, bool, bool, tuple, tuple, int)):
            self.assertIs(kind, part.__class__)
        self.assertEqual(row, list(frame_octets(frame)))
        self.assertIsInstance(reader.take(frame_octets(("settings", False, ((1, 2),))))[0][1][2][0], tuple)

    def test_reserved_bits(self):
        for row, frame in (
            (raw(0, 0, 2 ** 31 + 1, (7,)), ("data", 1, False, (7,), None)), (raw(4, 0, 2 ** 31), ("settings", False, ())),
            (raw(8, 0, 2 ** 31, (128, 0, 0, 1)), ("window", 0, 1)), (raw(8, 0, 1, (255, 255, 255, 255)), ("window", 1, MOST_STREAM)),
            (raw(7, 0, 0, (255,) * 8), ("away", MOST_STREAM, 2 ** 32 - 1, ())), (raw(7, 0, 0, (128,) + (0,) * 7), ("away", 0, 0, ())),
            (raw(5, 4, 1, (128, 0, 0, 2, 9)), ("promise", 1, True, 2, (9,), None)), (raw(3, 0, 1, (255,) * 4), ("reset", 1, 2 ** 32 - 1)),
            (raw(2, 0, 1, (128, 0, 0, 2, 0)), ("part", 1, (True, 2, 1))), (raw(11, 0, 2 ** 31 + 5), ("other", 11, 0, 5, ())),
        ):
            self.assertEqual(told_alike(self, row), [("frame", frame)], row)

    def test_flags_that_nobody_names(self):
        for sort, named, stream, payload in ((0, 9, 1, (0,)), (1, 45, 1, (0, 0, 0, 0, 0, 0)), (2, 0, 1, (0, 0, 0, 2, 1)), (3, 0, 1, (0,) * 4),
                                             (4, 1, 0, ()), (5, 12, 1, (0,) * 6), (6, 1, 0, (0,) * 8), (7, 0, 0, (0,) * 8), (8, 0, 1, (1,) * 4)):
            for flags in range(256):
                one = told([raw(sort, flags, stream, payload)])
                self.assertEqual(one, told([raw(sort, flags & named, stream, payload)]), (sort, flags))
                self.assertEqual(one[0][0], "frame")
        for flags in range(256):
            start = frame_octets(OPEN_HEAD)
            self.assertEqual(told([start + raw(9, flags, 5, (1,))])[1:], [("frame", ("more", 5, flags & 4 != 0, (1,)))])
            self.assertEqual(told([raw(12, flags, 5)]), [("frame", ("other", 12, flags, 5, ()))])

    def test_padding_of_other_octets(self):
        self.assertEqual(told_alike(self, raw(0, 8, 1, (2, 5, 6, 7))), [("frame", ("data", 1, False, (5,), 2))])
        self.assertEqual(told_alike(self, raw(1, 12, 1, (1, 5, 255))), [("frame", ("head", 1, False, True, None, (5,), 1))])


class FaultsTest(unittest.TestCase):
    def is_fault(self, word, row, at=0, when=None):
        """The fault is told with the octet `when`, at the index `at`; nothing comes behind it."""
        events = told_alike(self, row + frame_octets(PING) * 2)
        self.assertEqual(events[-1], ("fault", word, at), row)
        self.assertEqual([event[0] for event in events[:-1]], ["frame"] * (len(events) - 1))
        self.assertEqual(found_at(row + frame_octets(PING) * 2), len(row) if when is None else when, row)

    def test_size(self):
        wrong = {2: (0, 4, 6, 10), 3: (0, 3, 5, 8), 4: (1, 5, 7, 11, 13), 6: (0, 7, 9, 16), 7: (0, 1, 7), 8: (0, 3, 5, 8)}
        for sort, sizes in wrong.items():
            for size in sizes:
                for stream in (0, 1):
                    # It is found ahead of "stream", and with the ninth octet.
                    self.is_fault("size", raw(sort, 0, stream, (1,) * size), when=9)
        for size in (1, 5, 6, 12):
            self.is_fault("size", raw(4, 1, 0, (0,) * size), when=9)
        self.assertEqual(told([raw(4, 0, 0, (0,) * 12)]), [("frame", ("settings", False, ((0, 0), (0, 0))))])

    def test_most_at_first(self):
        self.assertEqual(FrameReader().take(raw(0, 0, 1, (1,) * 16384)), [("frame", ("data", 1, False, (1,) * 16384, None))])
        self.assertEqual(FrameReader().take(raw(0, 0, 1, (), size=16385)), [("fault", "size", 0)])

    def test_most(self):
        for sort in (0, 1, 5, 10, 255):
            stream = 1 if sort < 10 else 0
            self.assertEqual(told([raw(sort, 4, stream, (1,) * 16384)])[0][0], "frame")
            self.assertEqual(told([raw(sort, 4, stream, (), size=16385)]), [("fault", "size", 0)])
            self.assertEqual(told([raw(sort, 4, stream, (), size=16385)[:8]]), [])
            self.assertEqual(told([raw(sort, 4, stream, (1,) * 16385)], most=16385)[0][0], "frame")
            self.assertEqual(told([raw(sort, 4, stream, (), size=2 ** 24 - 1)], most=2 ** 24 - 2), [("fault", "size", 0)])
        for sort, size in ((4, 16386), (7, 16385)):
            self.assertEqual(told([raw(sort, 0, 0, (), size=size)]), [("fault", "size", 0)])
        start = frame_octets(OPEN_HEAD)
        self.assertEqual(told([start + raw(9, 0, 5, (), size=16385)])[1:], [("fault", "size", len(start))])
        self.assertEqual(told([raw(8, 0, 1, (1,) * 4)], most=3), [("fault", "size", 0)])

    def test_stream(self):
        for sort, payload in ((0, ()), (1, ()), (2, (0, 0, 0, 0, 0)), (3, (0,) * 4), (5, (0,) * 4), (9, ())):
            for stream in (0, 2 ** 31):
                for flags in (0, 4, 8):
                    self.is_fault("stream", raw(sort, flags, stream, payload), when=9)
        for sort, payload in ((4, ()), (6, (0,) * 8), (7, (0,) * 8)):
            for stream in (1, MOST_STREAM, 2 ** 31 + 1):
                self.is_fault("stream", raw(sort, 0, stream, payload), when=9)
        for sort, payload in ((8, (0, 0, 0, 1)), (10, ())):
            for stream in (0, 1):
                self.assertEqual(told([raw(sort, 0, stream, payload)])[0][0], "frame")

    def test_more(self):
        for frame in (MORE, LAST_MORE, ("more", 1, True, ())):
            self.is_fault("more", frame_octets(frame), when=9)
            self.is_fault("more", frame_octets(PING) + frame_octets(frame), at=17, when=26)
        for first in (OPEN_HEAD, OPEN_PROMISE):
            start = frame_octets(first)
            size = len(start)
            for ahead in ((), frame_octets(MORE), frame_octets(MORE) * 3):
                for other in FRAMES + (("more", 6, True, ()), ("more", 6, False, (1,)), ("head", 5, True, True, None, (), None), ("data", 5, True, (), None)):
                    if other not in (MORE, LAST_MORE):
                        at = size + len(ahead)
                        self.is_fault("more", start + ahead + frame_octets(other), at=at, when=at + 9)
                at = size + len(ahead) + 9
                self.is_fault("more", start + ahead + frame_octets(LAST_MORE) + frame_octets(LAST_MORE), at=at, when=at + 9)
                self.assertEqual(told_alike(self, start + ahead + frame_octets(LAST_MORE) + frame_octets(PING))[-1], ("frame", PING))
        # The promise belongs to its stream, not to the other one.
        self.is_fault("more", frame_octets(OPEN_PROMISE) + frame_octets(("more", 6, True, ())), at=15, when=24)
        whole = frame_octets(("head", 5, True, True, None, (), None))
        self.is_fault("more", whole + frame_octets(MORE), at=9, when=18)

    def test_pad(self):
        for sort, flags, payload in (
            (0, 8, ()), (0, 8, (1,)), (0, 8, (255,) * 255), (0, 8, (3, 1, 1)), (1, 12, ()), (1, 12, (1,)), (1, 12, (4, 1, 1, 1)),
            # The part, or the other stream, does not fit.
            (1, 36, ()), (1, 36, (0,) * 4), (1, 44, ()), (1, 44, (0,) * 5), (1, 44, (1,) + (0,) * 5), (1, 44, (2,) + (0,) * 6),
            (5, 4, ()), (5, 4, (0,) * 3), (5, 12, ()), (5, 12, (0,) * 4), (5, 12, (1,) + (0,) * 4), (5, 12, (9,) + (0,) * 12),
            (5, 0, (1,)), (1, 32, (1, 2)), (1, 8, ()),
        ):
            row = raw(sort, flags, 1, payload)
            self.is_fault("pad", row)
            self.is_fault("pad", frame_octets(PING) + row, at=17)
        for sort, flags, payload in ((0, 8, (0,)), (0, 8, (2, 1, 1)), (1, 12, (0,)), (1, 12, (3, 1, 1, 1)), (1, 36, (0,) * 5), (1, 44, (0,) * 6),
                                     (1, 44, (1,) + (0,) * 6), (5, 4, (0,) * 4), (5, 12, (0,) * 5), (5, 12, (8,) + (0,) * 12)):
            self.assertEqual(told([raw(sort, flags, 1, payload)])[0][0], "frame", (sort, flags, payload))

    def test_window(self):
        for stream in (0, 1, MOST_STREAM):
            for first in (0, 128):
                self.is_fault("window", raw(8, 0, stream, (first, 0, 0, 0)))

    def test_self(self):
        for stream in (1, 3, MOST_STREAM):
            octets = tuple(stream.to_bytes(4, "big"))
            for first in (octets[0], octets[0] + 128):
                self.is_fault("self", raw(2, 0, stream, (first,) + octets[1:] + (9,)))
                self.is_fault("self", raw(1, 36, stream, (first,) + octets[1:] + (9, 1, 2)))
                self.is_fault("self", raw(1, 32 + 8, stream, (1, first) + octets[1:] + (9, 1, 2)))
        # "pad" comes first; a promise of its own stream is no fault.
        self.is_fault("pad", raw(1, 44, 1, (2, 0, 0, 0, 1, 9, 1)))
        self.assertEqual(told([raw(5, 4, 1, (0, 0, 0, 1))]), [("frame", ("promise", 1, True, 1, (), None))])

    def test_the_order(self):
        start = frame_octets(OPEN_HEAD)
        at = len(start)
        self.is_fault("size", start + raw(6, 0, 1, (0,) * 7), at=at, when=at + 9)
        self.is_fault("stream", start + raw(6, 0, 1, (0,) * 8), at=at, when=at + 9)
        self.is_fault("stream", start + raw(9, 0, 0, (0,) * 8), at=at, when=at + 9)
        self.is_fault("more", start + raw(8, 0, 5, (0,) * 4), at=at, when=at + 9)
        self.is_fault("more", start + raw(0, 8, 5), at=at, when=at + 9)
        self.is_fault("more", start + raw(2, 0, 5, (0, 0, 0, 5, 0)), at=at, when=at + 9)
        self.is_fault("size", raw(9, 0, 0, (), size=16385), when=9)
        self.is_fault("stream", raw(9, 0, 0), when=9)
        self.is_fault("size", raw(8, 0, 0, (0,) * 3), when=9)

    def test_nothing_behind_a_fault(self):
        reader = FrameReader()
        self.assertEqual(reader.take(raw(8, 0, 0, (0,) * 4) + frame_octets(PING)), [("fault", "window", 0)])
        self.assertEqual(reader.take(frame_octets(PING)), [])
        reader.set_most(2 ** 20)
        self.assertEqual(reader.take(raw(0, 0, 0)), [])
        self.assertEqual(list(reader.each(frame_octets(PING))), [])


class EachTest(unittest.TestCase):
    def test_the_same_events(self):
        row = tuple(octet for frame in FRAMES for octet in frame_octets(frame)) + raw(8, 0, 0, (0,) * 4) + frame_octets(PING)
        for pieces in ([row], [[octet] for octet in row], uneven(row, 3)):
            reader = FrameReader()
            events = [event for piece in pieces for event in reader.each(piece)]
            self.assertEqual(events, [("frame", frame) for frame in FRAMES] + [("fault", "window", len(row) - 30)])

    def test_each_is_told_as_soon_as_it_is_read(self):
        reader = FrameReader()
        rest = iter(reader.each(frame_octets(PING) * 2))
        self.assertEqual(next(rest), ("frame", PING))
        self.assertEqual(next(rest), ("frame", PING))
        self.assertRaises(StopIteration, next, rest)

    def test_set_most_between_two_events(self):
        big = frame_octets(("data", 1, False, (1,) * 16385, None))
        row = frame_octets(PING) + big + frame_octets(PING) + big
        reader = FrameReader()
        kinds = []
        for at, event in enumerate(reader.each(row)):
            kinds.append(event[0])
            reader.set_most(16385 if at == 0 else 16384)
        self.assertEqual((kinds, event), (["frame", "frame", "frame", "fault"], ("fault", "size", len(row) - len(big))))
        reader = FrameReader()
        self.assertEqual(reader.take(row), [("frame", PING), ("fault", "size", 17)])

    def test_set_most_within_a_frame(self):
        big = frame_octets(("data", 1, False, (1,) * 16385, None))
        for size in range(9):
            reader = FrameReader()
            self.assertEqual(reader.take(big[:size]), [])
            reader.set_most(16385)
            self.assertEqual(reader.take(big[size:]), [("frame", ("data", 1, False, (1,) * 16385, None))])
        # Behind the ninth octet a smaller one does not count.
        reader = FrameReader()
        self.assertEqual(reader.take(frame_octets(PING)[:9]), [])
        reader.set_most(0)
        self.assertEqual(reader.take(frame_octets(PING)[9:]), [("frame", PING)])
        self.assertEqual(reader.take(frame_octets(PING)[:9]), [("fault", "size", 17)])
        reader = FrameReader()
        reader.set_most(16385)
        reader.take(big[:8])
        reader.set_most(16384)
        self.assertEqual(reader.take(big[8:]), [("fault", "size", 0)])


def second(row, most):
    """The events of whole octets, once more, by a table of the faults."""
    events = []
    at = 0
    ahead = 0
    while len(row) - at >= 9:
        size = int.from_bytes(bytes(row[at:at + 3]), "big")
        sort, flags = row[at + 3], row[at + 4]
        stream = int.from_bytes(bytes(row[at + 5:at + 9]), "big") & MOST_STREAM
        name = SORTS[sort] if sort < 10 else "other"
        exact = {"reset": 4, "window": 4, "part": 5, "ping": 8}
        wrong_size = size > most or size != exact.get(name, size) or (name == "away" and size < 8) or (
            name == "settings" and (size % 6 > 0 or (flags & 1 and size)))
        wrong_stream = (name in ("data", "head", "part", "reset", "promise", "more") and not stream) or (name in ("settings", "ping", "away") and stream)
        wrong_more = (ahead and (name != "more" or stream != ahead)) or (name == "more" and not ahead)
        for wrong, word in ((wrong_size, "size"), (wrong_stream, "stream"), (wrong_more, "more")):
            if wrong:
                return events + [("fault", word, at)]
        payload = tuple(row[at + 9:at + 9 + size])
        if len(payload) < size:
            return events
        found = second_frame(name, sort, flags, stream, payload)
        if isinstance(found, str):
            return events + [("fault", found, at)]
        events.append(("frame", found))
        if name in ("head", "promise", "more"):
            ahead = 0 if flags & 4 else stream
        at += 9 + size
    return events


def second_frame(name, sort, flags, stream, payload):
    end, whole, answer = bool(flags & 1), bool(flags & 4), bool(flags & 1)

    def number(begin, count, mask=2 ** 32 - 1):
        return int.from_bytes(bytes(payload[begin:begin + count]), "big") & mask

    if name in ("data", "head", "promise"):
        pad = None
        if flags & 8:
            if not payload:
                return "pad"
            pad, payload = payload[0], payload[1:]
        start = {"data": 0, "head": 5 if flags & 32 else 0, "promise": 4}[name]
        if start + (pad or 0) > len(payload):
            return "pad"
        octets = payload[start:len(payload) - (pad or 0)]
        if name == "data":
            return ("data", stream, end, octets, pad)
        if name == "promise":
            return ("promise", stream, whole, number(0, 4, MOST_STREAM), octets, pad)
        part = (payload[0] > 127, number(0, 4, MOST_STREAM), payload[4] + 1) if start else None
        return "self" if part and part[1] == stream else ("head", stream, end, whole, part, octets, pad)
    if name == "part":
        other = number(0, 4, MOST_STREAM)
        return "self" if other == stream else ("part", stream, (payload[0] > 127, other, payload[4] + 1))
    if name == "window":
        return ("window", stream, number(0, 4, MOST_STREAM)) if number(0, 4, MOST_STREAM) else "window"
    return {
        "reset": ("reset", stream, number(0, 4)), "ping": ("ping", answer, payload), "more": ("more", stream, whole, payload),
        "settings": ("settings", answer, tuple((number(at, 2), number(at + 2, 4)) for at in range(0, len(payload), 6))),
        "away": ("away", number(0, 4, MOST_STREAM), number(4, 4), payload[8:]), "other": ("other", sort, flags, stream, payload),
    }[name]


class SecondReaderTest(unittest.TestCase):
    def random_octets(self, chance):
        """Frames one behind the other, now and then with an octet changed."""
        found = []
        ahead = 0
        for _ in range(chance.randrange(1, 12)):
            sort = 9 if ahead and chance.random() < 0.95 else chance.randrange(12)
            stream = ahead if sort == 9 and chance.random() < 0.95 else chance.choice((0, 1, 2, 3, 2 ** 31 + 1))
            if chance.random() < 0.8:
                stream = {4: 0, 6: 0, 7: 0}.get(sort, stream or 1)
            flags = chance.choice((0, 0, 1, 4, 5, 8, 12, 32, 36, 44, chance.randrange(256)))
            size = {2: 5, 3: 4, 4: 0 if flags & 1 else 6 * chance.randrange(3), 6: 8, 7: 8 + chance.randrange(3), 8: 4}.get(sort, chance.randrange(20))
            payload = [chance.choice((0, 0, 0, 1, 2, 3, 128)) for _ in range(size)]
            row = list(raw(sort, flags, stream, payload))
            if chance.random() < 0.05:
                row[chance.randrange(len(row))] = chance.choice((0, 1, 7, 255))
            found += row
            if sort in (1, 5, 9):
                ahead = 0 if flags & 4 else stream & MOST_STREAM
        return tuple(found)

    def test_alike(self):
        chance = random.Random(31)
        words = {}
        for _ in range(4000):
            row = self.random_octets(chance)
            most = chance.choice((16384, 16384, 10, 15))
            events = told_alike(self, row, most)
            self.assertEqual(events, second(row, most), row)
            for event in events:
                word = event[1] if event[0] == "fault" else event[1][0]
                words[word] = words.get(word, 0) + 1
        self.assertEqual(set(words), set(SORTS) | {"other", "size", "stream", "more", "pad", "window", "self"})


if __name__ == "__main__":
    unittest.main()
