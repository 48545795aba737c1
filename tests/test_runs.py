import unittest

from tests import model, test_worths
from tests.changes import STRANGE, changed
from tests.model import DeedCase, SHAPES, drawn, edges, steps
from tests.test_deeds import SHIFTS
from tests.test_tellings import ONE_ROW, WRONG, drawn_part, rounds, row_at
from tests.test_worths import ONE_NUMBER, QUOTIENTS, cases, is_kept
from widewords.deeds import telling
from widewords.errors import NoTelling
from widewords.runs import held, ran
from widewords.tellings import is_telling
from widewords.worths import comes

NONE = (0, 0, 0, 0, 0, 0)
FALSE = ((1, NONE, ()),)
MARK = ((1, NONE, (("mark",),)),)
# Worth other than 0 where the cell k, at I, or at 10 I + J, isn't 0.
OUTER = ((1, NONE, (("slice", "k", (0, 1, 0, 0), (1, 1, 0, 0)),)),)
INNER = ((1, NONE, (("slice", "k", (0, 10, 1, 0), (1, 10, 1, 0)),)),)


def set_cell(place):
    return ("row", ("set", ("k", (place, 0, 0, 0)), 1))


def some(worths, at, many):
    """A few of the worths, others for each deed."""
    step = 1 + len(worths) // many
    return worths[at % step::step]


class RanTest(unittest.TestCase):
    def test_the_same_as_comes(self):
        for at, (deed, w, n, wanted, worths) in enumerate(cases()):
            for x, y in some(worths, at, 4):
                y = 0 if deed[0] in ONE_NUMBER else y or 1
                told = ran(deed, w, n, x, y)
                self.assertEqual(told, comes(deed, w, n, x, y), (deed, w, n, x, y))
                self.assertTrue(is_kept(told), told)

    def test_at_the_edges(self):
        for w, n in [(4, 1), (4, 4), (9, 2), (16, 4)]:
            for deed in [("sum",), ("difference",), ("compare",), ("odd",), ("product",), ("signed product",)]:
                for x in edges(w, n):
                    for y in edges(w, n):
                        self.assertEqual(ran(deed, w, n, x, y), comes(deed, w, n, x, y), (deed, w, n, x, y))

    def test_every_pair_of_one_small_word(self):
        for deed in [("sum",), ("difference",), ("compare",), ("signed product",), ("quotient",), ("signed quotient",)]:
            for x in range(16):
                for y in range(deed[0] in QUOTIENTS, 16):
                    self.assertEqual(ran(deed, 4, 1, x, y), comes(deed, 4, 1, x, y), (deed, x, y))

    def test_told(self):
        self.assertEqual(ran(("sum",), 4, 2, 200, 100), ((12, 2), (), (1, 0, 0, 0)))
        self.assertEqual(ran(("quotient",), 4, 2, 200, 7), ((12, 1), (4, 0), (0, 0, 0, 0)))
        self.assertEqual(ran(("compare",), 4, 1, 7, 8), ((), (), (1, 0, 0, 0)))
        self.assertEqual(ran(("led", "signed", "signed", 1), 4, 1, 9, 0), ((9, 15), (), (0, 0, 0, 1)))


class RefusedTest(test_worths.RefusedTest):
    """Refused as comes is."""

    def tell(self, deed, w, n, x, y):
        return ran(deed, w, n, x, y)


class HeldTest(DeedCase):
    def check(self, told, wanted, w=4, n=1, x=0, y=0):
        self.assertIs(is_telling(told), True)
        self.assertIs(held(told, w, n, x, y), wanted, told)

    def test_told_tellings(self):
        for at, (deed, w, n, wanted, worths) in enumerate(cases()):
            for x, y in some(worths, at, 1 if deed[0] in SHIFTS else 2):
                y = y or 1 if deed[0] in QUOTIENTS else y
                self.check(telling(deed), True, w, n, x, y)

    def test_any_y_for_a_deed_of_one_number(self):
        for w, n in SHAPES:
            top = 2 ** (w * n)
            for deed in [("turned",), ("bare",), ("left", 3), ("right", w), ("down", w * n), ("roll", 100),
                         ("led", "signed", "plain", 2), ("led", "plain", "signed", 1 - n)]:
                for y in (0, 1, top - 1, *drawn(w, 1, top)):
                    self.check(telling(deed), True, w, n, top - 2, y)

    def test_nothing_to_ask(self):
        self.check((), True)
        self.check((ONE_ROW, set_cell(0)), True)
        self.check((rounds((3, 0, 0), ONE_ROW, rounds((2, 0, 0), ONE_ROW)),), True)

    def test_one_sentence_that_fails_once(self):
        for count in range(4):
            for place in range(6):
                told = (set_cell(place), rounds((count, 0, 0), ONE_ROW, sentence=OUTER), ONE_ROW)
                self.check(told, place > count)
                told = (set_cell(place), rounds((0, 1, 0), ONE_ROW, sentence=OUTER))
                self.check(told, place > count + 1, n=count + 1)

    def test_an_inner_sentence_that_fails_once(self):
        for place in range(60):
            told = (set_cell(place), rounds((3, 0, 0), rounds((4, 0, 0), ONE_ROW, sentence=INNER), ONE_ROW))
            self.check(told, place // 10 >= 3 or place % 10 > 4)
            told = (set_cell(place), rounds((3, 0, 0), rounds((0, 0, 0), ONE_ROW, sentence=INNER)))
            self.check(told, place not in (0, 10, 20))
            told = (set_cell(place), rounds((3, 0, 0), ONE_ROW, rounds((-200, 0, 0), ONE_ROW, sentence=INNER)))
            self.check(told, place not in (0, 10, 20))

    def test_an_inner_sentence_is_not_asked_without_outer_rounds(self):
        self.check((rounds((0, 0, 0), rounds((2, 0, 0), sentence=FALSE)),), True)
        self.check((rounds((-1, 0, 0), rounds((0, 0, 0), sentence=FALSE)),), True)
        self.check((rounds((1, 0, 0), rounds((0, 0, 0), sentence=FALSE)),), False)

    def test_a_part_without_rounds(self):
        for count in [(0, 0, 0), (-1, 0, 0), (-200, 0, 0), (0, -1, 0), (0, 0, -1), (-4, 0, 1)]:
            self.check((rounds(count, ONE_ROW, sentence=FALSE),), False)
            self.check((set_cell(0), rounds(count, ONE_ROW, sentence=OUTER)), False)
            self.check((set_cell(1), rounds(count, ONE_ROW, sentence=OUTER)), True)
            self.check((rounds(count, ONE_ROW, sentence=OUTER), set_cell(0)), True)

    def test_the_mark_as_it_is_then(self):
        up, down = ("row", ("mark", 1)), ("row", ("mark", 0))
        self.check((rounds((1, 0, 0), up, sentence=MARK),), False)
        self.check((rounds((2, 0, 0), up, down, sentence=MARK), up), True)
        self.check((up, rounds((1, 0, 0), down, sentence=MARK)), False)
        self.check((up, down, rounds((1, 0, 0), up, down, sentence=MARK)), True)

    def test_the_cells_as_they_are_then(self):
        grown = ("row", ("set", ("k", (2, 1, 0, 0)), 1))
        self.check((rounds((3, 0, 0), grown, sentence=OUTER),), False)
        self.check((rounds((1, 0, 0), grown, sentence=OUTER),), True)
        self.check((rounds((3, 0, 0), ("row", ("set", ("k", (-1, 0, 0, 1)), 0)), grown, sentence=OUTER),), False)

    def test_x_and_y(self):
        for letter in "ab":
            whole = ((1, NONE, (("slice", letter, (0, 0, 0, 0), (0, 0, 0, 1)),)), (-173, NONE, ()))
            told = (rounds((0, 0, 0), sentence=whole),)
            self.check(told, letter == "a", 4, 2, 173, 29)
            self.check(told, letter == "b", 4, 2, 29, 173)
            self.check(told, False, 4, 2, 174, 172)
        beyond = ((1, NONE, (("slice", "a", (2, 0, 0, 0), (100, 0, 0, 0)),)),
                  (1, NONE, (("slice", "c", (0, 0, 0, 0), (100, 0, 0, 0)),)), (1, NONE, (("mark",),)))
        self.check((rounds((0, 0, 0), sentence=beyond),), True, 4, 2, 255, 255)

    def test_above_two_hundred_rounds(self):
        most = ((0, (0, 10, 0, 0, 0, 0), ()),)
        self.check((rounds((200, 0, 0), sentence=most),), True)
        self.check((rounds((200, 1, 0), sentence=most),), False)
        inner = ((0, (0, 0, 10, 0, 0, 0), ()),)
        self.check((rounds((1, 0, 0), rounds((200, 0, 0), sentence=inner)),), True)
        self.check((rounds((1, 0, 0), rounds((200, 1, 0), sentence=inner)),), False)
        late = ((0, (0, 1, 0, 0, 0, 0), ()),)
        self.check((rounds((0, 0, 31), sentence=late),), True, 16, 4)
        self.check((rounds((17, 0, 31), sentence=late),), False, 16, 4)
        self.check((rounds((16, 0, 31), sentence=late),), True, 16, 4)

    def test_no_telling(self):
        for thing in WRONG + [each for each in STRANGE if each != ()]:
            with self.assertRaises(NoTelling, msg=thing):
                held(thing, 4, 2, 0, 0)

    def test_no_telling_ahead_of_all_rows(self):
        failing = rounds((1, 0, 0), ONE_ROW, sentence=FALSE)
        self.check((failing,), False)
        for last in [row_at((100, 0, 0, 0)), row_at((-1, 0, 0, 0)), ("row", ("mark", 2)),
                     rounds((200, 0, 200), ONE_ROW), rounds((200, 0, 0), rounds((20, 0, 0)))]:
            for again in range(2):
                with self.assertRaises(NoTelling):
                    held((failing, last), 16, 4, 0, 0)

    def test_sentences_changed_once(self):
        """One number of a told sentence changed: held tells what the machine and the sentences written anew tell."""
        for deed in [("sum",), ("product",), ("quotient",)]:
            told = telling(deed)
            for at, part in enumerate(told):
                if part[0] == "rounds" and part[2] != ():
                    for sentence in changed(part[2], [0, 1, -1, 2, ("mark",), "c"]):
                        other = told[:at] + (part[:2] + (sentence,) + part[3:],) + told[at + 1:]
                        if model.is_telling(other):
                            self.check_anew(other, 4, 2, 173, 21)

    def test_drawn_tellings(self):
        came = {True: 0, False: 0}
        for seed in range(400):
            few = iter(drawn(seed, 300, 1000))
            w, n = 4 + next(few) % 13, 1 + next(few) % 4
            told = (set_cell(20 + next(few) % 20),) + tuple(
                with_sentence(drawn_part(few, 0), few, next(few) % 3) for part in range(1 + next(few) % 3))
            rows = [step[1] for step in steps(told, w, n) if step[0] == "row"]
            if len(rows) <= 4000 and all(model.is_done_row(row) for row in rows):
                came[self.check_anew(told, w, n, seed, seed * 3 % 16)] += 1
            else:
                with self.assertRaises(NoTelling):
                    held(told, w, n, 0, 0)
        self.assertTrue(came[True] > 50 and came[False] > 50, came)

    def check_anew(self, told, w, n, x, y):
        x, y = x % 2 ** (w * n), y % 2 ** (w * n)
        machine = self.machine_with(w, n, x, y)
        wanted = True
        for step in steps(told, w, n):
            if step[0] == "row":
                machine.do(step[1])
            elif step[0] == "ask" and not model.holds(step[1], n, step[2], step[3], machine):
                wanted = False
        self.check(told, wanted, w, n, x, y)
        return wanted


def with_sentence(part, few, kind):
    """A drawn part with sentences that hang on cells of k, on I and J, or hold always."""
    if part[0] == "row":
        return part
    place = 20 + next(few) % 10
    slices = ((1, NONE, (("slice", "k", (place, 3, 2, 0), (place + 1, 3, 2, 0)),)),)
    sentence = [slices, (), MARK][kind]
    return part[:2] + (sentence,) + (tuple(with_sentence(each, few, next(few) % 3) for each in part[3]),)
