"""What an end of a line of version two puts out."""

from ownanswer.frames import frame_octets
from ownanswer.outbox import Outbox
from ownanswer.packer import Packer
from ownanswer.settings import Settings
from ownanswer.streamstates import after
from ownanswer.windows import Window


class Sender:
    """Puts frames out at once, and the items of streams when octets are wanted."""

    def __init__(self, table):
        self._table = table
        self._outbox = Outbox()
        self._settings = Settings()
        self._packer = Packer(self._settings.value("room"))
        self._window = Window(self._settings.value("window"))

    def put_octets(self, octets):
        self._outbox.put(octets)

    def put(self, frame):
        self._outbox.put(frame_octets(frame))

    def give(self, most):
        """Takes away and returns the first octets; items are put out for it as far as needed."""
        while self._outbox.size() < most and self._put_item():
            pass
        return self._outbox.give(most)

    def change(self, pairs):
        """Takes settings of the other end; None, or the word of their fault."""
        word = self._settings.change(pairs)
        if word is None:
            self._packer.set_limit(self._settings.value("room"))
        return word

    def first_window(self):
        """The size with which the window of a stream begins."""
        return self._settings.value("window")

    def grow(self, amount):
        """Adds to the window of the line; False if that would be too much."""
        return self._window.grow(amount)

    def _put_item(self):
        """Puts out the item whose turn it is; False if there is none."""
        number = self._table.choose(self._window.room(), self._settings.value("streams"))
        if number == 0:
            return False
        if self._table.find(number).begins_with_head():
            self._put_head(number)
        else:
            self._put_data(number)
        return True

    def _put_head(self, number):
        """A head list, cut to the most of the other end."""
        pairs, last = self._table.find(number).take_head()
        block = self._packer.pack(pairs)
        most = self._settings.value("most")
        self.put(("head", number, last, len(block) <= most, None, block[:most], None))
        for at in range(most, len(block), most):
            self.put(("more", number, at + most >= len(block), block[at:at + most]))
        self._go_on(number, "last" if last else "head")

    def _put_data(self, number):
        """As many octets as the windows and the most of the other end allow."""
        stream = self._table.find(number)
        most = min(stream.sending.room(), self._window.room(), self._settings.value("most"))
        octets, last = stream.take_octets(most)
        stream.sending.use(len(octets))
        self._window.use(len(octets))
        self.put(("data", number, last, octets, None))
        self._go_on(number, "end" if last else "data")

    def _go_on(self, number, deed):
        """Does what follows from a deed of this end."""
        stream = self._table.find(number)
        stream.state = after(stream.state, True, deed)
        if stream.state == "closed":
            self._table.close(number, False)
