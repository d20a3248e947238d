import unittest

from ownanswer.errors import HeadFault, WrongUse


class ErrorsTest(unittest.TestCase):
    def test_wrong_use_has_its_word(self):
        with self.assertRaises(ValueError) as caught:
            raise WrongUse("side")
        self.assertEqual(caught.exception.word, "side")

    def test_head_fault_has_its_word_and_place(self):
        with self.assertRaises(ValueError) as caught:
            raise HeadFault("row", 7)
        self.assertEqual((caught.exception.word, caught.exception.at), ("row", 7))

    def test_neither_is_the_other(self):
        self.assertFalse(issubclass(WrongUse, HeadFault))
        self.assertFalse(issubclass(HeadFault, WrongUse))
        self.assertTrue(issubclass(WrongUse, ValueError))
        self.assertTrue(issubclass(HeadFault, ValueError))


if __name__ == "__main__":
    unittest.main()
