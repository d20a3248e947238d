"""The states of a stream ([8.1]): every entry of the table."""

import unittest

from ownanswer.streamstates import DEEDS, STATES, after

# As the document writes it: both ends, then this end's deeds, then the other end's.
BOTH = """
idle | open | sent if mine, else heard | order | order | order | order | idle
open | open | sent if mine, else heard | open | sent if mine, else heard | closed: the state | open | open
"""
MINE = BOTH + """
sent | closed | closed | closed | closed | closed: the state | sent | sent
heard | heard | closed: the state | heard | closed: the state | closed: the state | heard | heard
closed | closed | closed | closed | closed | closed | closed | closed: the state
"""
THEIRS = BOTH + """
sent | sent | closed: the state | sent | closed: the state | closed: the state | sent | sent
heard | closed | closed | closed | closed | closed: the state | heard | heard
closed | closed | closed | closed | closed | closed: the state | closed: the state | closed: the state
"""


def meaning(entry, mine):
    if entry == "sent if mine, else heard":
        return "sent" if mine else "heard"
    if entry == "closed: the state":
        return "closed"
    return ("fault", entry) if entry in ("order", "closed") else entry


class StatesTest(unittest.TestCase):
    def test_words(self):
        self.assertEqual(STATES, ("idle", "open", "sent", "heard", "closed"))
        self.assertEqual(DEEDS, ("head", "last", "data", "end", "reset", "window", "part"))

    def test_every_entry(self):
        count = 0
        for mine, table in ((True, MINE), (False, THEIRS)):
            for line in table.strip().replace("\n\n", "\n").split("\n"):
                state, *entries = [entry.strip() for entry in line.split("|")]
                self.assertEqual(len(entries), len(DEEDS))
                for deed, entry in zip(DEEDS, entries):
                    self.assertEqual(after(state, mine, deed), meaning(entry, mine), (state, mine, deed))
                    count += 1
        self.assertEqual(count, 70)

    def test_examples(self):
        self.assertEqual(after("open", True, "end"), "sent")
        self.assertEqual(after("sent", False, "last"), "closed")
        self.assertEqual(after("sent", True, "data"), ("fault", "closed"))

    def test_both_ends_agree(self):
        """What one end calls its own deed, the other calls the other end's: no fault arises between two right ends."""
        other = {"idle": "idle", "open": "open", "sent": "heard", "heard": "sent", "closed": "closed"}
        for state in STATES[:4]:
            for deed in DEEDS:
                told = after(state, True, deed)
                if not isinstance(told, tuple):
                    self.assertEqual(after(other[state], False, deed), other[told], (state, deed))


if __name__ == "__main__":
    unittest.main()
