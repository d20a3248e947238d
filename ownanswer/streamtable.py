"""What an end of a line of version two knows of its streams."""

from ownanswer.turns import Turns
from ownanswer.windows import Window

FIRST_WEIGHT = 16


class Stream:
    """A stream that is not closed: its state, its windows and what is to be sent on it."""

    def __init__(self, state, to_send, to_take):
        self.state = state
        self.sending = Window(to_send)
        self.taking = Window(to_take)
        self.has_said_last = False
        self._items = []
        # How many octets of the first item were put out.
        self._given = 0

    def put(self, item):
        """Adds (kind, content, last) behind the others; content is a tuple of pairs or of octets."""
        self._items.append(item)
        self.has_said_last = item[2]

    def is_ready(self, room):
        """True if the first item may be put out while the line has so much room."""
        if len(self._items) == 0:
            return False
        kind, content, _ = self._items[0]
        return kind == "head" or len(content) == 0 or (room > 0 and self.sending.room() > 0)

    def begins_with_head(self):
        """True if the first item is a head list."""
        return self._items[0][0] == "head"

    def take_head(self):
        """(pairs, last) of the first item, which is taken away."""
        _, pairs, last = self._items.pop(0)
        return (pairs, last)

    def take_octets(self, most):
        """(octets, last): at most so many octets of the first item, which is taken away with its last ones."""
        _, content, last = self._items[0]
        octets = content[self._given:self._given + most]
        self._given += len(octets)
        if self._given < len(content):
            return (octets, False)
        self._items.pop(0)
        self._given = 0
        return (octets, last)


class StreamTable:
    """The streams by their numbers, and whose turn it is."""

    def __init__(self):
        self._turns = Turns()
        self._streams = {}
        # The closed streams, with True for those that this end has reset.
        self._closed = {}
        # The weights that were told of streams before they began.
        self._weights = {}

    def begin(self, number, stream):
        self._streams[number] = stream
        self._turns.add(number, self._weights.get(number, FIRST_WEIGHT))

    def find(self, number):
        """The stream with this number if it is there and not closed, or None."""
        return self._streams.get(number)

    def state_of(self, number):
        if number in self._streams:
            return self._streams[number].state
        return "closed" if number in self._closed else "idle"

    def numbers(self):
        """The ascending list of the streams that are not closed."""
        return self._turns.known()

    def close(self, number, by_this_end):
        """Closes a stream for good; by_this_end says whether this end has reset it."""
        if number in self._streams:
            del self._streams[number]
            self._turns.remove(number)
        self._closed[number] = by_this_end

    def is_left_out(self, number):
        """True if what comes for this stream is left out, as this end has reset it."""
        return self._closed.get(number, False)

    def set_weight(self, number, weight):
        """Sets the weight of a stream, also of one that is still to come."""
        if number in self._streams:
            self._turns.set_weight(number, weight)
        elif number not in self._closed:
            self._weights[number] = weight

    def choose(self, room, bound):
        """The stream whose first item goes next, or 0; room is that of the line, bound the most streams or None."""
        ready = self._ready(room, bound)
        return self._turns.choose(ready) if len(ready) > 0 else 0

    def _ready(self, room, bound):
        numbers = self.numbers()
        begun = len([number for number in numbers if self._streams[number].state != "idle"])
        may_begin = bound is None or begun < bound
        ready = []
        for number in numbers:
            stream = self._streams[number]
            if stream.state == "idle":
                # It has a head list to begin with. No other one begins ahead of the least one that waits.
                if may_begin:
                    ready.append(number)
                may_begin = False
            elif stream.is_ready(room):
                ready.append(number)
        return tuple(ready)
