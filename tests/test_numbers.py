import unittest

from tests.model import WIDTHS, drawn
from widewords.errors import NoFit
from widewords.numbers import plain, sign_of, signed, signed_words, words_of

SHAPES = [(w, n) for w in WIDTHS for n in range(1, 9)]
SIXTY = 10 ** 60 - 1


class NumbersTest(unittest.TestCase):
    def check_number(self, number, w, n):
        """[6]: n words of width w, in a tuple."""
        self.assertIs(type(number), tuple)
        self.assertEqual(len(number), n)
        for word in number:
            self.assertIs(type(word), int)
            self.assertTrue(0 <= word < 2 ** w)

    def test_written_in_the_document(self):
        self.assertEqual(words_of(0b11001000, 4, 2), (8, 12))
        self.assertEqual(signed_words(-0b00111000, 4, 2), (8, 12))
        self.assertEqual((plain((8, 12), 4), signed((8, 12), 4), sign_of((8, 12), 4)), (200, -56, 1))

    def test_lowest_word_first(self):
        for w, n in SHAPES:
            number = tuple(range(1, n + 1))
            worth = sum(word * 2 ** (w * at) for at, word in enumerate(number))
            self.assertEqual(plain(number, w), worth)
            self.assertEqual(words_of(worth, w, n), number)

    def test_plain_edges(self):
        for w, n in SHAPES:
            top = 2 ** (w * n)
            self.assertEqual(words_of(0, w, n), (0,) * n)
            self.assertEqual(words_of(top - 1, w, n), (2 ** w - 1,) * n)
            self.assertEqual(words_of(1, w, n), (1,) + (0,) * (n - 1))
            self.assertEqual(words_of(top // 2, w, n), (0,) * (n - 1) + (2 ** (w - 1),))
            for worth in (-1, top, top + 1, -top, -top // 2, 2 * top):
                with self.assertRaises(NoFit):
                    words_of(worth, w, n)

    def test_signed_edges(self):
        for w, n in SHAPES:
            half = 2 ** (w * n - 1)
            self.assertEqual(signed_words(0, w, n), (0,) * n)
            self.assertEqual(signed_words(-1, w, n), (2 ** w - 1,) * n)
            self.assertEqual(signed_words(-half, w, n), (0,) * (n - 1) + (2 ** (w - 1),))
            self.assertEqual(signed_words(half - 1, w, n), (2 ** w - 1,) * (n - 1) + (2 ** (w - 1) - 1,))
            for worth in (-half - 1, half, half + 1, 2 * half - 1, 2 * half, -2 * half):
                with self.assertRaises(NoFit):
                    signed_words(worth, w, n)

    def test_sixty_figures(self):
        for w, n in SHAPES:
            for worth in (SIXTY, -SIXTY, 10 ** 59, -10 ** 59):
                for made in (words_of, signed_words):
                    with self.assertRaises(NoFit):
                        made(worth, w, n)

    def test_refused_may_be_asked_again(self):
        for _ in range(2):
            with self.assertRaises(NoFit):
                words_of(256, 4, 2)
        self.assertEqual(words_of(255, 4, 2), (15, 15))

    def test_they_lead_back(self):
        for w, n in SHAPES:
            top = 2 ** (w * n)
            for worth in [0, 1, top - 1, top // 2, top // 2 - 1, *drawn(w * 10 + n, 20, top)]:
                number = words_of(worth, w, n)
                self.check_number(number, w, n)
                self.assertEqual(plain(number, w), worth)
                below = worth >= top // 2
                meant = worth - top if below else worth
                self.assertEqual(sign_of(number, w), int(below))
                self.assertIs(type(sign_of(number, w)), int)
                self.assertEqual(signed(number, w), meant)
                self.assertEqual(signed_words(meant, w, n), number)
                self.check_number(signed_words(meant, w, n), w, n)

    def test_every_number_of_two_small_words(self):
        for worth in range(256):
            number = (worth % 16, worth // 16)
            self.assertEqual(words_of(worth, 4, 2), number)
            self.assertEqual(signed_words((worth + 128) % 256 - 128, 4, 2), number)
