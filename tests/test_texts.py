import re
import unittest

from tests.model import WIDTHS, drawn
from widewords.errors import NoText
from widewords.texts import read, shown

SIGNS = [chr(code) for code in range(32, 127)]
# A number as [9] writes it, for each width.
WRITTEN = re.compile("|".join("[01]{%d}(?: [01]{%d}){0,7}" % (w, w) for w in WIDTHS))
TOLD = {
    (4, (8, 12)): "1100 1000",
    (4, (0,)): "0000",
    (4, (1,)): "0001",
    (4, (8,)): "1000",
    (4, (1, 2, 3, 4, 5, 6, 7, 15)): "1111 0111 0110 0101 0100 0011 0010 0001",
    (5, (1, 16)): "10000 00001",
    (16, (65535,)): "1111111111111111",
    (16, (1, 32768, 6)): "0000000000000110 1000000000000000 0000000000000001",
}
NO_TEXTS = [
    "", " ", "  ", "0", "1", "01", "010", "111", "1" * 17, "0" * 17, "0" * 16 + " " + "0" * 17, "0" * 100,
    " ".join(["0101"] * 9), " ".join(["0" * 16] * 9), " ".join(["0000"] * 40), "010 101", "0101 101", "101 0101",
    "0101 01010", "01010 0101", "0101 0101 010", "0101 0101 01010", "0101  0101", " 0101", "0101 ", " 0101 ",
    "0101 0101 ", " 0101 0101", "0101 0101  0101", "0b101", "0x0101", "+101", "-101", "01_1", "1e11", "0102", "2000",
    "O101", "l101", "0101,0101", "0101-0101", "0101_0101", "0.01", "None", "true", "(8, 12)", "01012", "~~~~", "0000 ~",
]


def numbers(w, n):
    """Numbers of n words: of 0, of W - 1, each single word and two at an edge, and drawn ones."""
    top = 2 ** w - 1
    found = [(0,) * n, (top,) * n]
    for at in range(n):
        found += [(0,) * at + (word,) + (0,) * (n - at - 1) for word in (1, top, 2 ** (w - 1), 2)]
    words = drawn(w * 8 + n, 5 * n, 2 ** w)
    return found + [tuple(words[at * n:at * n + n]) for at in range(5)]


class TextsTest(unittest.TestCase):
    def check_refused(self, text):
        with self.assertRaises(NoText, msg=repr(text)):
            read(text)

    def test_told(self):
        for (w, number), text in TOLD.items():
            self.assertEqual(shown(number, w), text)
            self.assertEqual(read(text), (w, number))

    def test_read_leads_back(self):
        for w in WIDTHS:
            for n in range(1, 9):
                for number in numbers(w, n):
                    text = shown(number, w)
                    self.assertEqual(text, " ".join(f"{word:0{w}b}" for word in number[::-1]))
                    self.assertEqual(read(text), (w, number))

    def test_kinds(self):
        told = read("1100 1000")
        self.assertIs(type(told), tuple)
        self.assertIs(type(told[1]), tuple)
        self.assertEqual([type(each) for each in (told[0], *told[1])], [int, int, int])
        self.assertIs(type(shown((8, 12), 4)), str)

    def test_no_texts(self):
        for text in NO_TEXTS:
            self.check_refused(text)

    def test_widths_and_manies(self):
        for w in range(1, 30):
            for n in range(1, 12):
                text = " ".join(["10" * (w // 2) + "1" * (w % 2)] * n)
                if 4 <= w <= 16 and n <= 8:
                    self.assertEqual(read(text), (w, (int(text.split()[0], 2),) * n))
                else:
                    self.check_refused(text)

    def test_any_sign_at_any_place(self):
        for text in [*TOLD.values(), "101010101", "0" * 16 + " " + "1" * 16]:
            found = [text[:at] + text[at + 1:] for at in range(len(text))]
            found += [text[:at] + sign + text[at + 1:] for at in range(len(text)) for sign in SIGNS]
            found += [text[:at] + sign + text[at:] for at in range(len(text) + 1) for sign in SIGNS]
            for other in found:
                if WRITTEN.fullmatch(other):
                    w, number = read(other)
                    self.assertEqual(shown(number, w), other)
                    self.assertEqual(w, len(other.split(" ")[0]))
                else:
                    self.check_refused(other)
