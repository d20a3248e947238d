"""The errors that the document names."""


class WrongUse(ValueError):
    """An end of a line is used in a way that its part of the document rules out."""

    def __init__(self, word):
        ValueError.__init__(self, word)
        self.word = word


class HeadFault(ValueError):
    """A block of a head list has a wrong part at the index `at`."""

    def __init__(self, word, at):
        ValueError.__init__(self, f"{word} at {at}")
        self.word = word
        self.at = at
