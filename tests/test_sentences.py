import unittest

from tests import model
from tests.changes import STRANGE, changed, nested
from tests.model import Model, SHAPES, drawn
from tests.test_products import told_product
from tests.test_quotients import told_quotient
from tests.test_sums import told_difference, told_sum
from widewords.sentences import holds, is_sentence

NONE = (0, 0, 0, 0, 0, 0)
START = (0, 0, 0, 0)
MARK = ("mark",)
SLICE = ("slice", "a", START, (0, 1, 0, 0))
MOST = ("slice", "z", (200, -200, 200, -200), (-200, 200, -200, 200))
TERM = (1, NONE, (SLICE,))
RIGHT = [
    (), (TERM,), ((0, NONE, ()),), ((-7, (1, 2, 3, 4, 5, 6), (MARK,)),), ((3, NONE, (SLICE, MARK)),),
    ((3, NONE, (MARK, MARK)),), ((3, NONE, (SLICE, SLICE)),), ((3, NONE, (MOST, SLICE)),), (TERM, TERM),
    ((10 ** 40 - 1, NONE, ()),), ((1 - 10 ** 40, NONE, ()),), ((1, (200, -200, 200, -200, 200, -200), ()),),
    (TERM,) * 20, ((0, NONE, (MARK,)),) * 20,
]
WRONG = [
    (TERM,) * 21, [TERM], (list(TERM),), TERM, ((1, NONE, (SLICE, SLICE, SLICE)),), ((1, NONE, (MARK, MARK, MARK)),),
    ((10 ** 40, NONE, ()),), ((-10 ** 40, NONE, ()),), ((True, NONE, ()),), ((False, NONE, ()),), (("1", NONE, ()),),
    ((None, NONE, ()),), ((1, (0,) * 5, ()),), ((1, (0,) * 7, ()),), ((1, [0] * 6, ()),), ((1, NONE, []),),
    ((1, NONE, MARK),), ((1, NONE, [MARK]),), ((1, NONE, (["mark"],)),), ((1, NONE, (("mark", 0),)),),
    ((1, NONE, (("Mark",),)),), ((1, NONE, (("slices", "a", START, START),)),), ((1, NONE, (SLICE[:3],)),),
    ((1, NONE, (SLICE + (START,),)),), ((1, NONE),), ((1, NONE, (), ()),), ((),), ("",), (None,), (MARK,), (SLICE,),
]


def put_in(thing, at, other):
    return thing[:at] + (other,) + thing[at + 1:]


def sentence_of(terms):
    """Told terms, written as (f, exponent, things), as a sentence."""
    things = {}
    for f, exponent, named in terms:
        for each in named:
            whole = each != MARK
            things[each] = ("slice", each[0], (each[1], 0, 0, 0), (each[2], 0, 0, 0)) if whole else MARK
    return tuple((f, (exponent, 0, 0, 0, 0, 0), tuple(things[each] for each in named)) for f, exponent, named in terms)


class LookerTest(unittest.TestCase):
    def test_right_ones(self):
        for thing in RIGHT:
            self.assertIs(is_sentence(thing), True, thing)

    def test_wrong_ones(self):
        for thing in WRONG + [each for each in STRANGE if each != ()]:
            self.assertIs(is_sentence(thing), False, thing)

    def test_numbers(self):
        for at in range(6):
            for number in (-200, 200, -201, 201, True, False, "0", None, (), [0]):
                right = type(number) is int and abs(number) <= 200
                self.assertIs(is_sentence(((1, put_in(NONE, at, number), ()),)), right, number)
        for part in (2, 3):
            for at in range(4):
                for number in (-200, 200, -201, 201, True, False, "0", None, (), [0]):
                    right = type(number) is int and abs(number) <= 200
                    told = put_in(SLICE, part, put_in(START, at, number))
                    self.assertIs(is_sentence(((1, NONE, (MARK, told)),)), right, number)

    def test_letters(self):
        for letter in ("a", "m", "z", "", "aa", "A", "`", "{", " ", "1", 0, True, None, (), ("a",), ["a"]):
            right = letter in ("a", "m", "z")
            self.assertIs(is_sentence(((1, NONE, (put_in(SLICE, 1, letter),)),)), right, letter)

    def test_changed_once(self):
        for sentence in [((-7, (1, 2, 3, 4, 5, 6), (MARK,)),), ((3, NONE, (MOST, SLICE)), TERM)]:
            came = {True: 0, False: 0}
            for thing in changed(sentence):
                told = is_sentence(thing)
                self.assertIs(told, model.is_sentence(thing), thing)
                came[told] += 1
            self.assertTrue(came[True] > 50 and came[False] > 500)

    def test_deep_things(self):
        deep = nested(100000)
        for thing in (deep, (deep, deep, deep), ((1, NONE, deep),), ((1, deep, ()),), ((1, NONE, (deep,)),)):
            self.assertIs(is_sentence(thing), False)


class HoldsTest(unittest.TestCase):
    def check(self, sentence, wanted, w=4, n=1, i=0, j=0, cells=(), mark=0):
        self.assertIs(holds(sentence, w, n, i, j, cells, mark), wanted, sentence)

    def test_no_terms(self):
        self.check((), True)
        self.check((), True, 16, 4, 200, 200, ((("a", 0), 5),), 1)

    def test_single_terms(self):
        self.check(((1, NONE, ()),), False)
        self.check(((0, NONE, ()),), True)
        self.check(((1, NONE, ()), (-1, NONE, ())), True)
        self.check(((8, NONE, ()), (-1, (3, 0, 0, 0, 0, 0), ())), True)

    def test_exponents(self):
        for exponent, right in [(-1, False), (0, True), (2000, True), (2001, False), (-200, False)]:
            i = 200 if exponent > 200 else 0
            told = (exponent - 10 * i, 10, 0, 0, 0, 0)
            for f in (0, 1, -1, 10 ** 40 - 1):
                self.check(((f, told, ()), (-f, told, ())), right, i=i)
            self.check(((5, told, (MARK,)),), right, i=i)
            self.check(((5, NONE, (MARK,)), (0, told, ())), right, i=i)

    def test_each_number_of_an_exponent(self):
        w, n, i, j = 7, 3, 5, 4
        for at, worth in enumerate([1, i, j, w * i, w * j, w * n]):
            told = put_in(NONE, at, 1)
            self.check(((1, told, ()), (-2 ** worth, NONE, ())), True, w, n, i, j)
            self.check(((1, told, ()), (-2 ** worth - 1, NONE, ())), False, w, n, i, j)
            self.check(((1, put_in(told, 0, 0 if at else -1), ()), (0, NONE, ())), False, w, n, i, j)
            self.check(((0, put_in(NONE, at, -1), ()),), False, w, n, i, j)

    def test_ends_of_slices(self):
        for part in (2, 3):
            for place, right in [(-1, False), (0, True), (100, True), (101, False), (-200, False), (200, False)]:
                told = put_in(("slice", "q", START, START), part, (place, 0, 0, 0))
                for things in [(told,), (told, MARK), (MARK, told), (told, told), (("slice", "p", START, START), told)]:
                    self.check(((0, NONE, things),), right)
                    self.check(((1, NONE, things),), right)
                    self.check(((1, NONE, ()), (-1, NONE, ()), (1, NONE, things)), right)

    def test_each_number_of_a_place(self):
        w, n, i, j = 5, 2, 7, 11
        for at, place in enumerate([1, i, j, n]):
            told = ("slice", "q", put_in(START, at, 1), (place + 1, 0, 0, 0))
            cells = ((("q", place), 9), (("q", place - 1), 30), (("q", place + 1), 31))
            self.check(((1, NONE, (told,)), (-9, NONE, ())), True, w, n, i, j, cells)
            until = ("slice", "q", (place - 1, 0, 0, 0), put_in(START, at, 1))
            self.check(((1, NONE, (until,)), (-30, NONE, ())), True, w, n, i, j, cells)
            self.check(((0, NONE, (("slice", "q", put_in(START, at, -1), START),)),), False, w, n, i, j, cells)

    def test_slices(self):
        cells = ((("a", 0), 3), (("a", 1), 15), (("a", 3), 2), (("b", 0), 7), (("a", 99), 1))
        for start, end, worth in [
            (0, 0, 0), (0, 1, 3), (0, 2, 243), (0, 4, 243 + 2 * 4096), (1, 2, 15), (1, 1, 0), (2, 1, 0), (100, 0, 0),
            (3, 4, 2), (2, 4, 32), (99, 100, 1), (98, 100, 16), (100, 100, 0), (4, 99, 0),
        ]:
            told = ("slice", "a", (start, 0, 0, 0), (end, 0, 0, 0))
            self.check(((1, NONE, (told,)), (-worth, NONE, ())), True, cells=cells)
            self.check(((1, NONE, (told,)), (-worth - 1, NONE, ())), False, cells=cells)
            self.check(((2, NONE, (told, told)), (-2 * worth * worth, NONE, ())), True, cells=cells)
            other = ("slice", "b", START, (1, 0, 0, 0))
            self.check(((3, NONE, (told, other)), (-21 * worth, NONE, ())), True, cells=cells)

    def test_mark(self):
        for mark in (0, 1):
            self.check(((1, NONE, (MARK,)),), mark == 0, mark=mark)
            self.check(((1, NONE, (MARK,)), (-1, NONE, ())), mark == 1, mark=mark)
            self.check(((4, NONE, (MARK, MARK)), (-1, (2, 0, 0, 0, 0, 0), (MARK,))), True, mark=mark)

    def test_cells_that_are_not_named(self):
        told = ("slice", "k", START, (100, 0, 0, 0))
        self.check(((1, NONE, (told,)),), True, 16, 4)
        self.check(((1, NONE, (told,)),), True, 16, 4, cells=((("j", 0), 1), (("l", 99), 65535)))
        self.check(((1, NONE, (told,)),), False, 16, 4, cells=((("k", 99), 1),))

    def test_told_terms(self):
        for w, n in SHAPES:
            k = w * n
            for x, y in zip(drawn(w * n, 3, 2 ** k), drawn(w * n + 1, 3, 2 ** k - 1)):
                y += 1
                for i in range(n + 1):
                    low = 2 ** (w * i)
                    summed = x % low + y % low
                    self.check_told(told_sum(w, n, i), w, n, {"a": x, "b": y, "c": summed % low}, summed // low)
                    less = x % low - y % low
                    self.check_told(told_difference(w, n, i), w, n, {"a": x, "b": y, "c": less % low}, int(less < 0))
                    self.check_told(told_product(w, n, i), w, n, {"a": x, "b": y, "c": x * (y % low)}, 0)
                for i in (0, 1, k // 2, k):
                    quotient, rest = divmod(x >> (k - i), y)
                    cells = {"a": x, "b": y, "c": quotient, "d": rest, "e": (x << i) % 2 ** k}
                    self.check_told(told_quotient(w, n, i), w, n, cells, 0)

    def check_told(self, terms, w, n, numbers, mark):
        """The told terms come to 0 with these numbers, and to another worth with another lowest word of c."""
        sentence = sentence_of(terms)
        cells = {(letter, at): worth >> w * at & 2 ** w - 1 for letter, worth in numbers.items() for at in range(9)}
        self.check(sentence, True, w, n, cells=tuple(cells.items()), mark=mark)
        cells["c", 0] ^= 1
        length = [each[2] for term in terms for each in term[2] if each[0] == "c"][0]
        self.check(sentence, length == 0, w, n, cells=tuple(cells.items()), mark=mark)

    def test_as_written_anew(self):
        came = {True: 0, False: 0}
        for at, (sentence, w, n, i, j, machine) in enumerate(drawn_cases()):
            cells = tuple(machine.cells.items())
            wanted = model.holds(sentence, n, i, j, machine)
            self.assertIs(holds(sentence, w, n, i, j, cells, machine.mark), wanted, (at, sentence))
            came[wanted] += 1
        self.assertTrue(came[True] > 200 and came[False] > 200, came)

    def test_nothing_is_changed(self):
        cells = ((("a", 0), 3), (("a", 1), 15))
        sentence = ((1, NONE, (("slice", "a", START, (2, 0, 0, 0)),)), (-243, NONE, ()))
        for again in range(3):
            self.check(sentence, True, cells=cells)
        self.assertEqual(cells, ((("a", 0), 3), (("a", 1), 15)))


def drawn_cases():
    """Drawn sentences of some terms, each with the one term more that brings it to 0 where no bound is broken, and
    again with that term one more."""
    found = []
    for at in range(600):
        few = iter(drawn(at, 120, 1000))
        w, n, i, j = 4 + next(few) % 13, 1 + next(few) % 4, next(few) % 6, next(few) % 6
        machine = Model(w)
        machine.mark = next(few) % 2
        for letter in "ab":
            machine.put_number(letter, drawn(at + 1, 1, 2 ** (w * 12))[0], 12)
        terms = []
        for step in range(1 + next(few) % 4):
            things = []
            for thing in range(next(few) % 3):
                start, end = next(few) % 4, next(few) % 9
                letter = "abc"[next(few) % 3]
                shift = (next(few) % 3) - (next(few) % 3 == 0)
                things.append(("slice", letter, (start, 0, shift, 0), (end, 1, 0, 0)) if next(few) % 3 else MARK)
            told = tuple(next(few) % 3 - (next(few) % 8 == 0) for number in range(6))
            terms.append((next(few) - 500, told, tuple(things)))
        total = Total(terms, w, n, i, j, machine).worth
        for more in (0, 1):
            last = (-(total + more), NONE, ())
            if abs(last[0]) < 10 ** 40:
                found.append(((*terms, last), w, n, i, j, machine))
    return found


class Total:
    """What the terms of a sentence come to, each bound left aside."""

    def __init__(self, terms, w, n, i, j, machine):
        self.worth = 0
        for f, (c, more_i, more_j, p, q, r), things in terms:
            worth = f << max(0, c + more_i * i + more_j * j + w * (p * i + q * j + r * n))
            for thing in things:
                worth *= machine.mark if thing == MARK else self.sliced(thing, w, n, i, j, machine)
            self.worth += worth

    def sliced(self, thing, w, n, i, j, machine):
        start, end = [model.place(told, n, i, j) for told in thing[2:]]
        return sum(machine.word((thing[1], at)) * 2 ** (w * (at - start)) for at in range(start, end))
