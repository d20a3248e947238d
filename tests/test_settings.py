import unittest

from ownanswer.settings import Settings

WORDS = ("room", "push", "streams", "window", "most", "list")
FIRST = (4096, 1, None, 65535, 16384, None)
MOST = 2 ** 32 - 1


def held(settings):
    return tuple(settings.value(word) for word in WORDS)


class SettingsTest(unittest.TestCase):
    def test_at_first(self):
        settings = Settings()
        self.assertEqual(held(settings), FIRST)
        self.assertEqual(settings.pairs(), [])

    def test_bounds(self):
        for name, allowed, refused, word in (
            (1, (0, 1, 4096, MOST), (), None), (2, (0, 1), (2, 3, MOST), "value"), (3, (0, 1, 100, MOST), (), None),
            (4, (0, 1, 65535, 2 ** 31 - 1), (2 ** 31, MOST), "flow"), (5, (16384, 16385, 2 ** 24 - 1), (0, 1, 16383, 2 ** 24, MOST), "value"),
            (6, (0, 1, MOST), (), None),
        ):
            for value in allowed:
                settings = Settings()
                self.assertIsNone(settings.change(((name, value),)))
                self.assertEqual(settings.value(WORDS[name - 1]), value)
                others = [settings.value(other) for other in WORDS if other != WORDS[name - 1]]
                self.assertEqual(others, [first for at, first in enumerate(FIRST) if at != name - 1])
            for value in refused:
                settings = Settings()
                self.assertEqual(settings.change(((name, value),)), word, (name, value))
                self.assertEqual(held(settings), FIRST)

    def test_names_that_are_not_listed(self):
        settings = Settings()
        for name in (0, 7, 8, 255, 65535):
            for value in (0, 1, MOST):
                self.assertIsNone(settings.change(((name, value),)))
        self.assertEqual((held(settings), settings.pairs()), (FIRST, []))
        self.assertIsNone(settings.change(((9, 9), (1, 5), (0, 0))))
        self.assertEqual(settings.pairs(), [(1, 5)])

    def test_a_name_twice(self):
        settings = Settings()
        self.assertIsNone(settings.change(((1, 5), (1, 6), (4, 7), (1, 8), (4, 9))))
        self.assertEqual(settings.pairs(), [(1, 8), (4, 9)])
        self.assertEqual(settings.change(((2, 2), (2, 0))), "value")
        self.assertEqual(settings.change(((2, 0), (2, 2))), "value")
        self.assertEqual(settings.value("push"), 1)

    def test_a_fault_changes_nothing(self):
        settings = Settings()
        settings.change(((1, 5), (3, 9)))
        for pairs, word in ((((1, 6), (2, 2)), "value"), (((2, 2), (1, 6)), "value"), (((4, 2 ** 31), (2, 2)), "flow"), (((2, 2), (4, 2 ** 31)), "value"),
                            (((1, 6), (4, 2 ** 31), (5, 1), (3, 1)), "flow"), (((5, 1), (4, 2 ** 31)), "value"), (((99, 1), (5, 2 ** 24), (6, 1)), "value")):
            self.assertEqual(settings.change(pairs), word, pairs)
            self.assertEqual(settings.change(list(pairs)), word)
            self.assertEqual(settings.pairs(), [(1, 5), (3, 9)])

    def test_pairs(self):
        settings = Settings()
        self.assertIsNone(settings.change(((6, 0), (5, 20000), (4, 1), (3, 2), (2, 0), (1, 0))))
        self.assertEqual(settings.pairs(), [(1, 0), (2, 0), (3, 2), (4, 1), (5, 20000), (6, 0)])
        settings.change(((1, 4096), (2, 1), (4, 65535), (5, 16384)))
        self.assertEqual(settings.pairs(), [(3, 2), (6, 0)])
        settings.pairs().clear()
        self.assertEqual(settings.pairs(), [(3, 2), (6, 0)])
        self.assertIsInstance(settings.pairs()[0], tuple)

    def test_no_pairs(self):
        settings = Settings()
        self.assertIsNone(settings.change(()))
        self.assertIsNone(settings.change([]))
        self.assertEqual(held(settings), FIRST)

    def test_settings_are_apart(self):
        one, two = Settings(), Settings()
        one.change(((1, 5),))
        self.assertEqual((one.value("room"), two.value("room")), (5, 4096))


if __name__ == "__main__":
    unittest.main()
