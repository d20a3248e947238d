"""Windows ([8.2])."""

import unittest

from ownanswer.windows import Window

MOST = 2 ** 31 - 1


class WindowTest(unittest.TestCase):
    def test_sizes(self):
        for size in (-MOST, -1, 0, 1, 65535, MOST):
            window = Window(size)
            self.assertEqual((window.size(), window.room()), (size, max(size, 0)))

    def test_use(self):
        for size in (-5, 0, 1, 7, MOST):
            window = Window(size)
            room = max(size, 0)
            self.assertIs(window.use(room + 1), False)
            self.assertEqual(window.size(), size)
            self.assertIs(window.use(0), True)
            self.assertEqual(window.size(), size)
            self.assertIs(window.use(room), True)
            self.assertEqual((window.size(), window.room()), (size - room, 0))
            self.assertIs(window.use(1), False)
        window = Window(7)
        self.assertIs(window.use(3), True)
        self.assertEqual((window.size(), window.room()), (4, 4))

    def test_grow(self):
        for size, amount in ((0, 1), (-9, 4), (5, MOST - 5), (MOST - 1, 1), (-MOST, MOST), (0, MOST), (-1, MOST)):
            window = Window(size)
            self.assertIs(window.grow(amount), True)
            self.assertEqual(window.size(), size + amount)
        for size, amount in ((1, MOST), (MOST, 1), (5, MOST - 4), (MOST, MOST)):
            window = Window(size)
            self.assertIs(window.grow(amount), False)
            self.assertEqual(window.size(), size)

    def test_shift(self):
        for size, amount in ((0, 0), (5, -9), (-9, -9), (5, MOST - 5), (-MOST, 2 * MOST), (MOST, 0), (MOST, -1)):
            window = Window(size)
            self.assertIs(window.shift(amount), True)
            self.assertEqual((window.size(), window.room()), (size + amount, max(size + amount, 0)))
        for size, amount in ((5, MOST - 4), (MOST, 1), (-1, MOST + 2)):
            window = Window(size)
            self.assertIs(window.shift(amount), False)
            self.assertEqual(window.size(), size)

    def test_below_nothing_and_up_again(self):
        window = Window(10)
        window.use(8)
        window.shift(-10)
        self.assertEqual((window.size(), window.room()), (-8, 0))
        self.assertIs(window.use(0), True)
        self.assertIs(window.use(1), False)
        window.grow(9)
        self.assertEqual((window.size(), window.room()), (1, 1))


if __name__ == "__main__":
    unittest.main()
