import functools
import itertools
import unittest

from tests.changes import STRANGE, nested
from tests.model import drawn
from widewords.errors import NoRow, TooMany
from widewords.small import short, small_run

ROWS = ("add", "less", "swap", "copy", "twice", "half", "bare", "both", "any", "odd", "nought", "clear", "one")
NO_ROWS = [each for each in STRANGE if each not in ROWS] + [
    "Add", "add ", " add", "ad", "adds", "sum", "move", "set", "times", "ask", ("add",), ["add"], ("add", "add"),
    ("mark", 1), nested(100000),
]


def after(row, w, lo, hi, k):
    """One row by [33], written anew."""
    size = 2 ** w
    if row == "add":
        return (lo + hi + k) % size, hi, int(lo + hi + k >= size)
    if row == "less":
        return (lo - hi - k) % size, hi, int(lo - hi - k < 0)
    if row == "twice":
        return (2 * lo + k) % size, hi, int(lo >= size // 2)
    if row == "half":
        return lo // 2 + size // 2 * k, hi, lo % 2
    plain = {
        "swap": (hi, lo, k), "copy": (lo, lo, k), "bare": (size - 1 - lo, hi, k), "both": (lo & hi, hi, k),
        "any": (lo | hi, hi, k), "odd": (lo ^ hi, hi, k), "nought": (0, hi, k), "clear": (lo, hi, 0),
        "one": (lo, hi, 1),
    }
    return plain[row]


def states(w):
    return list(itertools.product(range(2 ** w), range(2 ** w), range(2)))


def ends(rows, w):
    """What rows come to for each lo, hi and k."""
    found = states(w)
    for row in rows:
        found = [after(row, w, *each) for each in found]
    return tuple(found)


@functools.cache
def firsts(w):
    """For all that rows of up to three come to: the first of these rows, and how many stand ahead of them."""
    found = {}
    looked = 0
    for length in range(4):
        for rows in itertools.product(ROWS, repeat=length):
            found.setdefault(ends(rows, w), (rows, looked))
            looked += 1
    return found


def drawn_rows(seed, most):
    lengths = drawn(seed, 40, most + 1)
    return [tuple(ROWS[at] for at in drawn(seed * 41 + step, length, 13)) for step, length in enumerate(lengths)]


class SmallRunTest(unittest.TestCase):
    def test_each_row(self):
        for w in (1, 2, 3):
            for row in ROWS:
                for lo, hi, k in states(w):
                    told = small_run((row,), w, lo, hi, k)
                    self.assertEqual(told, after(row, w, lo, hi, k), (row, w, lo, hi, k))
                    self.assertIs(type(told), tuple)
                    self.assertTrue(all(type(each) is int for each in told))

    def test_told(self):
        for row, w, begun, wanted in [
            ("add", 3, (7, 1, 0), (0, 1, 1)), ("add", 3, (7, 7, 1), (7, 7, 1)), ("less", 3, (0, 7, 1), (0, 7, 1)),
            ("less", 3, (3, 2, 1), (0, 2, 0)), ("swap", 3, (3, 2, 1), (2, 3, 1)), ("copy", 3, (3, 2, 1), (3, 3, 1)),
            ("twice", 3, (5, 2, 0), (2, 2, 1)), ("half", 3, (5, 2, 1), (6, 2, 1)), ("half", 1, (1, 0, 1), (1, 0, 1)),
            ("bare", 3, (5, 2, 1), (2, 2, 1)), ("both", 3, (6, 3, 0), (2, 3, 0)), ("any", 3, (6, 3, 0), (7, 3, 0)),
            ("odd", 3, (6, 3, 0), (5, 3, 0)), ("nought", 3, (6, 3, 1), (0, 3, 1)), ("clear", 3, (6, 3, 1), (6, 3, 0)),
            ("one", 3, (6, 3, 0), (6, 3, 1)),
        ]:
            self.assertEqual(small_run((row,), w, *begun), wanted, row)
        self.assertEqual(small_run(("copy", "clear", "add"), 2, 3, 0, 1), (2, 3, 1))

    def test_no_rows(self):
        for w in (1, 2, 3):
            for begun in states(w):
                self.assertEqual(small_run((), w, *begun), begun)
                self.assertEqual(small_run([], w, *begun), begun)

    def test_up_to_eight_rows(self):
        for w in (1, 2, 3):
            for rows in drawn_rows(w, 8) + [("add",) * 8, ROWS[:8], ROWS[5:]]:
                for begun, wanted in zip(states(w), ends(rows, w)):
                    self.assertEqual(small_run(rows, w, *begun), wanted, rows)
                    self.assertEqual(small_run(list(rows), w, *begun), wanted, rows)

    def test_nothing_is_changed(self):
        rows = ["add", "swap"]
        self.assertEqual(small_run(rows, 3, 1, 2, 0), (2, 3, 0))
        self.assertEqual(short(rows, 3)[0], ("add", "swap"))
        self.assertEqual(rows, ["add", "swap"])


class RefusedTest(unittest.TestCase):
    def check_refused(self, error, rows):
        for handed in (tuple(rows), list(rows)):
            for again in range(2):
                with self.assertRaises(error):
                    small_run(handed, 2, 1, 1, 0)
                with self.assertRaises(error):
                    short(handed, 2)

    def test_no_row(self):
        for thing in NO_ROWS:
            for rows in ([thing], ["add", thing], [thing, "add"], ["one"] * 7 + [thing], [thing] + ["one"] * 7):
                self.check_refused(NoRow, rows)

    def test_too_many(self):
        for many in (9, 10, 20, 1000):
            self.check_refused(TooMany, ["clear"] * many)
        self.check_refused(TooMany, ROWS)

    def test_no_row_ahead_of_too_many(self):
        for thing in NO_ROWS:
            for at in (0, 4, 8):
                self.check_refused(NoRow, ["one"] * at + [thing] + ["one"] * (8 - at))
            self.check_refused(NoRow, ["one"] * 12 + [thing])


class ShortTest(unittest.TestCase):
    def test_rows_that_do_nothing(self):
        for w in (1, 2, 3):
            for rows in ((), [], ("swap", "swap"), ["bare", "bare"], ("bare", "swap", "swap", "bare"), ("swap",) * 8):
                self.assertEqual(short(rows, w), ((), 0))

    def test_each_single_row(self):
        for w in (1, 2, 3):
            known = firsts(w)
            for row in ROWS:
                self.assertEqual(short((row,), w), known[ends((row,), w)], (row, w))
        for at, row in enumerate(ROWS):
            self.assertEqual(short([row], 3), ((row,), at + 1))

    def test_told(self):
        self.assertEqual(short(("swap", "swap", "one"), 3), (("one",), 13))
        self.assertEqual(short(("add", "clear"), 3), (("add", "clear"), 1 + 13 + 11))
        self.assertEqual(short(("one", "one"), 3), (("one",), 13))
        self.assertEqual(short(("nought", "nought", "nought"), 3), (("nought",), 11))
        self.assertEqual(short(("one", "clear", "nought", "copy"), 3), (("nought", "copy", "clear"), 183 + 1740))

    def test_none_of_up_to_three(self):
        for w in (1, 2, 3):
            self.assertEqual(short(("add", "swap", "twice", "swap", "half", "bare", "swap"), w), (None, 2380))

    def test_the_first_of_all(self):
        for w in (1, 2, 3):
            known = firsts(w)
            found = set()
            for rows in drawn_rows(w + 10, 3) + drawn_rows(w + 20, 8) + drawn_rows(w + 30, 4):
                wanted = known.get(ends(rows, w), (None, 2380))
                told = short(rows, w)
                self.assertEqual(told, wanted, (rows, w))
                self.assertEqual(short(list(rows), w), wanted)
                self.assertEqual((type(told), type(told[1])), (tuple, int))
                found.add(None if told[0] is None else len(told[0]))
            self.assertEqual(found, {None, 0, 1, 2, 3})

    def test_the_last_one_looked_at(self):
        known = firsts(3)
        for rows in itertools.product(ROWS[-3:], repeat=3):
            self.assertEqual(short(rows, 3), known[ends(rows, 3)])
        rows = max(known.values(), key=lambda each: each[1])
        self.assertEqual(short(rows[0], 3), rows)

    def test_alike_at_one_width_alone(self):
        self.assertEqual(short(("half",), 1), (("twice",), 5))
        self.assertEqual(short(("half",), 2), (("half",), 6))
        self.assertEqual(short(("half",), 3), (("half",), 6))
        for rows in [("half", "clear"), ("twice", "twice", "clear"), ("half", "half", "clear")]:
            told = [short(rows, w) for w in (1, 2, 3)]
            self.assertEqual(told, [firsts(w)[ends(rows, w)] for w in (1, 2, 3)])
            self.assertNotEqual(told[0], told[2])
