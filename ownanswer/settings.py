"""The settings that one end tells the other."""

# The names of the words, and what holds at first; None is no bound.
NAMES = {"room": 1, "push": 2, "streams": 3, "window": 4, "most": 5, "list": 6}
FIRST = (("room", 4096), ("push", 1), ("streams", None), ("window", 65535), ("most", 16384), ("list", None))

LEAST_MOST = 16384
MOST_MOST = 16777215
MOST_WINDOW = 2147483647


def _fault_of(name, value):
    """The word of what is wrong with a pair, or None."""
    if name == NAMES["push"] and value > 1:
        return "value"
    if name == NAMES["most"] and not LEAST_MOST <= value <= MOST_MOST:
        return "value"
    return "flow" if name == NAMES["window"] and value > MOST_WINDOW else None


class Settings:
    """What holds for one end."""

    def __init__(self):
        self._held = {NAMES[word]: value for word, value in FIRST}

    def value(self, word):
        """What holds for a word; None is no bound."""
        return self._held[NAMES[word]]

    def change(self, pairs):
        """Takes pairs in order; None, or the word of the first fault, with which nothing is changed."""
        for name, value in pairs:
            word = _fault_of(name, value)
            if word is not None:
                return word
        for name, value in pairs:
            if name in self._held:
                self._held[name] = value
        return None

    def pairs(self):
        """The list of the pairs that differ from the first ones, ascending by name."""
        first = {NAMES[word]: value for word, value in FIRST}
        return [(name, self._held[name]) for name in sorted(self._held) if self._held[name] != first[name]]
