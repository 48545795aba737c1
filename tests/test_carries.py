import unittest

from tests.model import drawn
from widewords.carries import carries, ones, settled
from widewords.errors import NoFit

MANIES = range(1, 65)


def told_carries(x, y, many):
    """[35], word for word."""
    x_twos = [x // 2 ** p % 2 for p in range(many)]
    y_twos = [y // 2 ** p % 2 for p in range(many)]
    found = []
    for p in range(many):
        if x_twos[p] == 1 and y_twos[p] == 1:
            stops = [q for q in range(p + 1, many) if x_twos[q] + y_twos[q] != 1]
            found.append((p, min(stops, default=many)))
    return tuple(found)


def edges(many):
    """0, 1, all ones, the highest two alone, and every other two."""
    top = 2 ** many
    return sorted({0, 1, top - 1, top // 2, top - 2, top // 3, (top - 1) // 3 * 2 % top})


def all_pairs():
    for many in MANIES:
        worths = edges(many)
        for x in worths:
            for y in worths:
                yield x, y, many
        limit = 2 ** many
        for x, y in zip(drawn(many, 40, limit), drawn(many + 100, 40, limit)):
            yield x, y, many
            contrary = limit - 1 - x
            yield x, contrary, many
            # One place changed in the contrary, so that at most one carry is made, and it runs far.
            yield x, contrary ^ (y & -y), many


class CarriesTest(unittest.TestCase):
    def test_told_ones(self):
        self.assertEqual(carries(0b1011, 0b0011, 4), ((0, 1), (1, 2)))
        self.assertEqual(carries(0b0111, 0b0001, 4), ((0, 3),))
        self.assertEqual(carries(0b1111, 0b0001, 4), ((0, 4),))
        self.assertEqual(carries(0b0101, 0b0111, 5), ((0, 2), (2, 3)))
        self.assertEqual(carries(1, 1, 1), ((0, 1),))
        self.assertEqual(carries(1, 0, 1), ())
        self.assertEqual(carries(0, 0, 64), ())
        self.assertEqual(carries(2 ** 64 - 1, 1, 64), ((0, 64),))
        self.assertEqual(carries(2 ** 63, 2 ** 63, 64), ((63, 64),))
        self.assertEqual(carries(2 ** 64 - 1, 2 ** 64 - 1, 64), tuple((p, p + 1) for p in range(64)))
        self.assertEqual(carries(0xAAAA, 0x5555, 16), ())

    def test_all_small_ones(self):
        for many in range(1, 6):
            for x in range(2 ** many):
                for y in range(2 ** many):
                    self.assertEqual(carries(x, y, many), told_carries(x, y, many))

    def test_form(self):
        for x, y, many in all_pairs():
            found = carries(x, y, many)
            self.assertEqual(found, told_carries(x, y, many))
            self.assertEqual(found, tuple(sorted(found)))
            self.assertIs(type(found), tuple)
            for pair in found:
                self.assertEqual([type(pair), len(pair), type(pair[0]), type(pair[1])], [tuple, 2, int, int])

    def test_exchanged_and_asked_again(self):
        for x, y, many in all_pairs():
            self.assertEqual(carries(x, y, many), carries(y, x, many))
            self.assertEqual(settled(x, y, many), settled(y, x, many))

    def test_contrary(self):
        for many in MANIES:
            for x in drawn(many, 20, 2 ** many):
                self.assertEqual(carries(x, 2 ** many - 1 - x, many), ())
                self.assertEqual(settled(x, 2 ** many - 1 - x, many), 0)

    def test_known_facts(self):
        for x, y, many in all_pairs():
            found = carries(x, y, many)
            self.assertEqual(sum(q - p for p, q in found), ones(x) + ones(y) - ones(x + y))
            self.assertEqual(any(q == many for p, q in found), x + y >= 2 ** many)
            self.assertEqual(settled(x, y, many), max([q - p for p, q in found], default=0))


class OnesTest(unittest.TestCase):
    def test_told_ones(self):
        self.assertEqual(ones(0), 0)
        self.assertEqual(ones(1), 1)
        self.assertEqual(ones(2 ** 64 - 1), 64)
        self.assertEqual(ones(2 ** 199), 1)
        for worth in [10 ** 60 - 1, 10 ** 59] + drawn(3, 50, 10 ** 60):
            self.assertEqual(ones(worth), bin(worth).count("1"))
            self.assertIs(type(ones(worth)), int)


class SettledTest(unittest.TestCase):
    def test_told_ones(self):
        self.assertEqual(settled(0, 0, 1), 0)
        self.assertEqual(settled(5, 10, 4), 0)
        self.assertEqual(settled(1, 1, 1), 1)
        self.assertEqual(settled(7, 1, 4), 3)
        self.assertEqual(settled(15, 1, 4), 4)
        self.assertEqual(settled(2 ** 64 - 1, 1, 64), 64)
        self.assertEqual(settled(2 ** 63, 2 ** 63, 64), 1)

    def test_as_told(self):
        for x, y, many in all_pairs():
            changes, one, other = 0, x, y
            while one & other:
                one, other, changes = one ^ other, 2 * (one & other), changes + 1
            self.assertEqual(settled(x, y, many), changes)


class RefusalsTest(unittest.TestCase):
    def test_unfit_worths(self):
        for asked in (carries, settled):
            for many in MANIES:
                top = 2 ** many
                for bad in (-1, -top, top, top + 1, 10 ** 60 - 1, 1 - 10 ** 60):
                    for x, y in ((bad, 0), (0, bad), (bad, bad), (bad, top - 1), (top - 1, bad)):
                        with self.assertRaises(NoFit):
                            asked(x, y, many)
                        with self.assertRaises(NoFit):
                            asked(x, y, many)
                self.assertEqual(asked(0, 0, many), asked(0, 0, many))
