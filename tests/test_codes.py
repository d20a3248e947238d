import itertools
import random
import unittest

from support import octets

from ownanswer.codes import coded, coded_length, decoded, word_of
from ownanswer.errors import HeadFault

RANKS = "abcdefghijklmnopqrstuvwxyz0123456789-./:=_ ,;ABCDEFGHIJKLMNOPQRSTUVWXYZ"


def second_words():
    """The word of each octet and of 256 as a string of bits, by the ranks and lengths of [6.3]."""
    ranked = [ord(sign) for sign in RANKS]
    ranked += [octet for octet in range(256) if octet not in ranked] + [256]
    lengths = [5] * 24 + [6] * 8 + [8] * 31 + [15] * 62 + [16] * 132
    words = {}
    word = 0
    last = 5
    for at, (octet, length) in enumerate(zip(ranked, lengths)):
        word = (word + (at > 0)) << (length - last)
        words[octet] = f"{word:0{length}b}"
        last = length
    return words


WORDS = second_words()


def filled(bits):
    bits += "1" * (-len(bits) % 8)
    return tuple(int(bits[at:at + 8], 2) for at in range(0, len(bits), 8))


def second_decoded(row):
    """The octets, or None, by looking for words at the front of the string of bits."""
    bits = "".join(f"{octet:08b}" for octet in row)
    turned = {word: octet for octet, word in WORDS.items()}
    found = []
    while True:
        length = next((length for length in (5, 6, 8, 15, 16) if bits[:length] in turned and len(bits) >= length), None)
        if length is None:
            return tuple(found) if len(bits) < 8 and "0" not in bits else None
        octet = turned[bits[:length]]
        if octet == 256:
            return None
        found.append(octet)
        bits = bits[length:]


def read(row):
    try:
        return decoded(row)
    except HeadFault as fault:
        return (fault.word, fault.at)


class WordsTest(unittest.TestCase):
    def test_every_word(self):
        self.assertEqual(len(WORDS), 257)
        for octet, word in WORDS.items():
            self.assertEqual(word_of(octet), (int(word, 2), len(word)), octet)

    def test_words_that_the_document_names(self):
        self.assertEqual(word_of(97), (0, 5))
        self.assertEqual(word_of(48), (0b110010, 6))
        self.assertEqual(word_of(256), (2 ** 16 - 1, 16))

    def test_no_word_begins_another(self):
        words = sorted(WORDS.values())
        for one, two in zip(words, words[1:]):
            self.assertFalse(two.startswith(one))
        self.assertEqual(sum(2 ** (16 - len(word)) for word in words), 2 ** 16)


class CodedTest(unittest.TestCase):
    def test_rows(self):
        for text, wanted in (("", ()), ("a", (7,)), ("0", (203,)), ("ab", (0, 127)), ("aaaaaaaa", (0, 0, 0, 0, 0)), ("-", (228,)), ("x", (191,)), ("y", (195,)), ("R", (254,))):
            self.assertEqual(coded(octets(text)), wanted, text)
            self.assertEqual(coded_length(octets(text)), len(wanted), text)

    def test_each_octet(self):
        for octet in range(256):
            row = coded((octet,))
            self.assertEqual(row, filled(WORDS[octet]), octet)
            self.assertEqual(decoded(row), (octet,))
            self.assertEqual(coded_length((octet,)), len(row))

    def test_there_and_back(self):
        chance = random.Random(5)
        for _ in range(2000):
            row = tuple(chance.choice((chance.randrange(256), ord(chance.choice(RANKS)))) for _ in range(chance.randrange(30)))
            found = coded(row)
            self.assertEqual(found, filled("".join(WORDS[octet] for octet in row)))
            self.assertEqual(coded(list(row)), found)
            self.assertEqual(coded_length(row), len(found))
            self.assertEqual(decoded(found), row)
            self.assertEqual(decoded(list(found)), row)
            self.assertIsInstance(found, tuple)
            self.assertIsInstance(decoded(found), tuple)

    def test_a_long_row(self):
        row = tuple(at % 256 for at in range(20000))
        self.assertEqual(decoded(coded(row)), row)


class DecodedTest(unittest.TestCase):
    def is_fault(self, bits):
        self.assertEqual(read(filled(bits)), ("code", 0), bits)

    def test_nothing(self):
        self.assertEqual(decoded(()), ())
        self.assertEqual(decoded([]), ())

    def test_the_end_word(self):
        self.is_fault("1" * 16)
        for ahead in ("a", "0", "A", "\x00", "abc", "x-0"):
            bits = "".join(WORDS[octet] for octet in octets(ahead))
            self.is_fault(bits + WORDS[256])
            self.is_fault(bits + WORDS[256] + WORDS[97])

    def test_octets_255_behind(self):
        for text in ("", "a", "ab", "0-A", "abcdefgh", "\x00\x01"):
            for many in (1, 2, 3):
                self.assertEqual(read(coded(octets(text)) + (255,) * many), ("code", 0), text)

    def test_bits_that_are_left(self):
        for octet in range(256):
            word = WORDS[octet]
            free = -len(word) % 8
            for count in range(2 ** free):
                bits = word + (f"{count:0{free}b}" if free else "")
                # These bits may be a word of their own; otherwise they must be bits 1.
                self.assertEqual(read(filled(bits)), second_decoded(filled(bits)) or ("code", 0), bits)
        self.assertEqual(read((6,)), ("code", 0))
        self.assertEqual(read((7,)), (97,))
        self.assertEqual(read((0,)), ("code", 0))
        self.assertEqual(read((254,)), (82,))
        self.assertEqual(read((255,)), ("code", 0))

    def test_cut_words(self):
        for octet in range(256):
            word = WORDS[octet]
            for size in range(8, len(word), 8):
                self.assertEqual(read(filled(word)[:size // 8]), ("code", 0), octet)

    def test_every_row_of_two_octets(self):
        for row in itertools.product(range(256), repeat=2):
            wanted = second_decoded(row)
            self.assertEqual(read(row), ("code", 0) if wanted is None else wanted, row)

    def test_turned_and_cut(self):
        chance = random.Random(6)
        for _ in range(600):
            row = tuple(chance.choice((chance.randrange(256), ord(chance.choice(RANKS)))) for _ in range(chance.randrange(1, 12)))
            found = list(coded(row))
            at = chance.randrange(len(found))
            found[at] ^= 1 << chance.randrange(8)
            for changed in (found, found[:at], found[at:], found + [255], found[:at] + [255, 255] + found[at:]):
                wanted = second_decoded(changed)
                self.assertEqual(read(changed), ("code", 0) if wanted is None else wanted, changed)


if __name__ == "__main__":
    unittest.main()
