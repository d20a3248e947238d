"""Messages gathered from the events of a reader."""


class Gathering:
    """Takes events and tells the message that each completes."""

    def __init__(self):
        self._head = ()
        self._body = []

    def take(self, event):
        """A request or response that is complete with this event, or None."""
        if event[0] == "head":
            self._head = event[1]
            self._body = []
        elif event[0] == "body":
            self._body.extend(event[1])
        elif event[0] == "end":
            return self._head[1:] + (tuple(self._body), event[1])
        return None
