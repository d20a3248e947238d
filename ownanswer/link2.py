"""A link: one end of a line of version two."""

from ownanswer.errors import HeadFault
from ownanswer.framereader import FrameReader
from ownanswer.frames import code_of
from ownanswer.sender2 import Sender
from ownanswer.settings import Settings
from ownanswer.streamstates import after
from ownanswer.streamtable import Stream, StreamTable
from ownanswer.unpacker import Unpacker
from ownanswer.windows import Window

# `PRI * HTTP/2.0`, two line ends, `SM` and two line ends.
OPENING = (80, 82, 73, 32, 42, 32, 72, 84, 84, 80, 47, 50, 46, 48, 13, 10, 13, 10, 83, 77, 13, 10, 13, 10)
NO_PUSH = (2, 0)


class Link:
    """Carries head lists and octets on streams; side is "client" or "server"."""

    def __init__(self, side):
        self._is_client = side == "client"
        self._table = StreamTable()
        self._sender = Sender(self._table)
        self._reader = FrameReader()
        # What this end has told the other, as far as it is answered, and what is not answered.
        self._settings = Settings()
        self._unanswered = []
        self._unpacker = Unpacker(self._settings.value("room"))
        self._window = Window(self._settings.value("window"))
        self._events = []
        self._next = 1
        # The greatest stream that the other end opened.
        self._greatest = 0
        self._opening_read = 0
        self._has_settings = False
        # The head list that is being read: its stream, whether it ends the stream, its octets.
        self._begun = (0, False)
        self._block = []
        self._refuses = False
        self._is_shut = False
        self._over = False
        self._open_line()

    def start(self, pairs, last):
        """Begins the next stream with a head list; returns its number."""
        number = self._next
        self._next += 2
        if self._over or self._is_shut or self._refuses:
            word = "lost" if self._over or self._is_shut else "refused"
            self._table.close(number, True)
            self._events.append(("reset", number, word))
        else:
            self._begin(number)
            self.head(number, pairs, last)
        return number

    def head(self, stream, pairs, last):
        """Adds a head list to the queue of a stream."""
        self._add(stream, ("head", tuple(pairs), last))

    def body(self, stream, octets, last):
        """Adds octets to the queue of a stream."""
        if len(octets) > 0 or last:
            self._add(stream, ("body", tuple(octets), last))

    def reset(self, stream, word):
        """Closes a stream; the code of the word tells the other end why."""
        if self._table.find(stream) is not None:
            self._drop(stream, word)

    def change(self, pairs):
        """Puts out settings, which hold for what is taken behind their answer."""
        self._sender.put(("settings", False, tuple(pairs)))
        self._unanswered.append(tuple(pairs))

    def give(self, most):
        """Takes away the first octets that are to be sent, at most so many."""
        return self._sender.give(most)

    def take(self, piece):
        """Reads octets of the other end."""
        for _ in self.each(piece):
            pass

    def each(self, piece):
        """The same, with a stop behind each frame."""
        if self._is_ended():
            return
        rest = self._behind_opening(piece)
        if self._over:
            yield
            return
        for event in self._reader.each(rest):
            self._deal_with(event)
            yield
            if self._is_ended():
                return

    def events(self):
        """The list of what came since the last call."""
        found = self._events
        self._events = []
        return found

    def shut(self):
        """The other end sends no more."""
        self._is_shut = True
        self._lose_all()

    def is_over(self):
        """True if a fault has ended the line."""
        return self._over

    def _is_ended(self):
        """True if nothing is taken any more."""
        return self._over or self._is_shut

    def _open_line(self):
        if self._is_client:
            self._sender.put_octets(OPENING)
            # A client's end opens the line; there is no opening to be read.
            self._opening_read = len(OPENING)
            self.change((NO_PUSH,))
        else:
            self.change(())

    def _begin(self, number):
        """A stream that is to be opened."""
        to_send = self._sender.first_window()
        self._table.begin(number, Stream("idle", to_send, self._settings.value("window")))

    def _add(self, number, item):
        stream = self._table.find(number)
        if stream is not None and not stream.has_said_last:
            stream.put(item)

    def _drop(self, number, word):
        """Closes a stream for this end, and tells the other end if it knows of it."""
        if self._table.state_of(number) != "idle":
            self._sender.put(("reset", number, code_of(word)))
        self._table.close(number, True)

    def _fail(self, number, word):
        self._drop(number, word)
        self._events.append(("reset", number, word))

    def _lose_all(self):
        for number in self._table.numbers():
            self._table.close(number, True)
            self._events.append(("reset", number, "lost"))

    def _end_line(self, word):
        """Ends the line for a fault."""
        self._sender.put(("away", self._greatest, code_of(word), ()))
        self._lose_all()
        self._events.append(("fault", word))
        self._over = True

    def _behind_opening(self, piece):
        """The octets of a piece behind the opening of the other end."""
        at = 0
        while at < len(piece) and self._opening_read < len(OPENING):
            if piece[at] != OPENING[self._opening_read]:
                self._end_line("opening")
                return ()
            self._opening_read += 1
            at += 1
        return piece[at:]

    def _deal_with(self, event):
        """Takes an event of the reader."""
        word = event[1] if event[0] == "fault" else self._take_frame(event[1])
        if word != "":
            self._end_line(word)

    def _take_frame(self, frame):
        """Deals with a frame; returns the word of a fault of the line, or an empty one."""
        kind = frame[0]
        if not self._has_settings and (kind != "settings" or frame[1]):
            return "order"
        if kind == "data":
            return self._take_data(frame)
        if kind == "head":
            return self._take_head(frame)
        if kind == "more":
            return self._take_more(frame)
        if kind == "settings":
            return self._take_settings(frame)
        if kind == "window":
            return self._take_window(frame)
        if kind == "reset":
            return self._take_reset(frame)
        if kind == "part":
            self._table.set_weight(frame[1], frame[2][2])
        elif kind == "ping" and not frame[1]:
            self._sender.put(("ping", True, frame[2]))
        elif kind == "away":
            self._take_away(frame)
        return "value" if kind == "promise" else ""

    def _take_head(self, frame):
        _, number, last, whole, part, octets, _ = frame
        if self._table.state_of(number) == "idle" and not self._may_open(number):
            return "order"
        if part is not None:
            self._table.set_weight(number, part[2])
        self._begun = (number, last)
        self._block = list(octets)
        return self._take_head_list() if whole else ""

    def _take_more(self, frame):
        _, _, whole, octets = frame
        self._block.extend(octets)
        return self._take_head_list() if whole else ""

    def _may_open(self, number):
        """True if the other end may open this stream now."""
        return not self._is_client and number % 2 == 1 and number > self._greatest

    def _take_head_list(self):
        number, last = self._begun
        try:
            pairs = self._unpacker.unpack(self._block)
        except HeadFault as fault:
            return fault.word
        if self._table.is_left_out(number):
            return ""
        if self._table.state_of(number) == "idle":
            self._begin(number)
            self._greatest = number
        state = after(self._table.state_of(number), False, "last" if last else "head")
        if isinstance(state, tuple):
            self._fail(number, state[1])
            return ""
        self._events.append(("head", number, pairs, last))
        self._set_state(number, state, last)
        return ""

    def _set_state(self, number, state, last):
        """The state behind a head list or octets of the other end; last says that they ended the stream."""
        if last:
            self._events.append(("end", number))
        stream = self._table.find(number)
        stream.state = state
        if state == "closed":
            self._table.close(number, False)

    def _take_data(self, frame):
        _, number, last, octets, pad = frame
        if self._table.state_of(number) == "idle":
            return "order"
        # The padding and its length are sent, too.
        count = len(octets) + (0 if pad is None else pad + 1)
        if not self._window.use(count):
            return "flow"
        self._refill(0, self._window, count)
        if self._table.is_left_out(number):
            return ""
        state = after(self._table.state_of(number), False, "end" if last else "data")
        if isinstance(state, tuple):
            self._fail(number, state[1])
            return ""
        stream = self._table.find(number)
        if not stream.taking.use(count):
            self._fail(number, "flow")
            return ""
        if len(octets) > 0:
            self._events.append(("body", number, octets))
        self._set_state(number, state, last)
        if not last:
            self._refill(number, stream.taking, count)
        return ""

    def _refill(self, number, window, count):
        """Lets the other end send as much again as it has sent."""
        if count > 0:
            window.grow(count)
            self._sender.put(("window", number, count))

    def _take_settings(self, frame):
        _, is_answer, pairs = frame
        self._has_settings = True
        if is_answer:
            self._hold_answered()
            return ""
        before = self._sender.first_window()
        word = self._sender.change(pairs)
        if word is not None:
            return word
        self._sender.put(("settings", True, ()))
        for number in self._table.numbers():
            if not self._table.find(number).sending.shift(self._sender.first_window() - before):
                self._fail(number, "flow")
        return ""

    def _hold_answered(self):
        """The first settings of this end without an answer hold from now on."""
        if len(self._unanswered) == 0:
            return
        before = self._settings.value("window")
        self._settings.change(self._unanswered.pop(0))
        self._unpacker.set_limit(self._settings.value("room"))
        self._reader.set_most(self._settings.value("most"))
        for number in self._table.numbers():
            self._table.find(number).taking.shift(self._settings.value("window") - before)

    def _take_window(self, frame):
        _, number, amount = frame
        if number == 0:
            return "" if self._sender.grow(amount) else "flow"
        state = self._table.state_of(number)
        if state == "idle":
            return "order"
        if state != "closed" and not self._table.find(number).sending.grow(amount):
            self._fail(number, "flow")
        return ""

    def _take_reset(self, frame):
        number = frame[1]
        state = self._table.state_of(number)
        if state == "idle":
            return "order"
        if state != "closed":
            self._table.close(number, False)
            self._events.append(("reset", number, "reset"))
        return ""

    def _take_away(self, frame):
        """The other end takes no streams above the last one any more."""
        self._refuses = True
        if not self._is_client:
            return
        for number in self._table.numbers():
            if number > frame[1]:
                self._fail(number, "refused")
