"""Messages of version two, gathered from the events of their streams."""

from ownanswer.heads2 import read_head, read_trailers
from ownanswer.lengths import has_bare_status, is_interim
from ownanswer.octets import is_digits, values

MOST_BODY = 99999
MALFORMED = ("malformed",)


def _is_length(value, size):
    """True for a row of digits that is this number."""
    return is_digits(value) and value.lstrip("0") == str(size).lstrip("0")


class Gathering2:
    """One message; side is "ask" or "reply", method that of the request which a response answers."""

    def __init__(self, side, method):
        self._side = side
        self._method = method
        self._head = None
        self._body = []
        self._trailers = None

    def take(self, event):
        """None as long as the message goes on, ("message", message) if it is complete, or MALFORMED."""
        if event[0] == "head":
            return self._take_head(event[2])
        if event[0] == "body":
            return self._take_body(event[2])
        return self._finish()

    def _take_head(self, pairs):
        if self._head is not None:
            return self._take_trailers(pairs)
        head = read_head(self._side, pairs)
        if head is None:
            return MALFORMED
        if not is_interim(head):
            self._head = head
        return None

    def _take_trailers(self, pairs):
        if self._trailers is not None:
            return MALFORMED
        self._trailers = read_trailers(pairs)
        return MALFORMED if self._trailers is None else None

    def _take_body(self, octets):
        if self._head is None or self._trailers is not None:
            return MALFORMED
        self._body.extend(octets)
        return MALFORMED if len(self._body) > MOST_BODY else None

    def _finish(self):
        if self._head is None or not self._has_right_length():
            return MALFORMED
        trailers = () if self._trailers is None else self._trailers
        return ("message", self._head[1:] + (tuple(self._body), trailers))

    def _has_right_length(self):
        """True if content-length is not there, counts for nothing, or is the length of the body."""
        if self._side == "reply" and (self._method == "HEAD" or has_bare_status(self._head[1])):
            return True
        lengths = values(self._head[-1], "content-length")
        if len(lengths) == 0:
            return True
        return len(lengths) == 1 and _is_length(lengths[0], len(self._body))
