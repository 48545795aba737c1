import unittest

from tests import model
from tests.changes import STRANGE, changed, nested
from tests.model import SHAPES, drawn, steps
from tests.test_deeds import LED, NAMED, SHIFTS
from widewords.deeds import telling
from widewords.errors import NoTelling
from widewords.tellings import is_telling, unrolled

AT = (0, 0, 0, 0)
A, B, C, D = ("a", AT), ("z", (1, -200, 200, 3)), ("m", (200, 0, -1, -200)), ("q", (0, 0, 0, 1))
ROWS = [
    ("set", A, 0), ("set", B, 1), ("move", A, B), ("bare", A, B), ("sum", A, B, C), ("less", A, B, C),
    ("both", A, B, C), ("any", A, B, C), ("odd", A, B, C), ("twice", A, B), ("half", A, B), ("times", A, B, C, D),
    ("mark", 0), ("mark", 1), ("ask", A),
]
ONE_ROW = ("row", ("mark", 0))
TERM = (1, (0, 0, 0, 0, 0, 0), (("mark",),))


def rounds(count, *parts, sentence=()):
    return ("rounds", count, sentence, parts)


RIGHT = [
    (), (rounds((0, 0, 0)),), (rounds((200, -200, 200), sentence=(TERM,) * 20),), (rounds((1, 1, 1), ONE_ROW),),
    (rounds((1, 0, 0), rounds((1, 0, 0)), ONE_ROW, rounds((0, 1, 0), ONE_ROW)), ONE_ROW),
    *[(("row", row),) for row in ROWS], *[(rounds((0, 1, 0), rounds((0, 0, 1), ("row", row))),) for row in ROWS],
    (("row", ("times", ("a", (0, 0, 0, 1)), ("a", (1, 0, 0, 0)), A, A)),),
]
WRONG = [
    ONE_ROW, [ONE_ROW], (list(ONE_ROW),), (("row",),), (("row", ("mark", 0), 0),), (("row", ["mark", 0]),),
    (("mark", 0),),
    (("row", ("ask", ("a", 0))),), (("row", ("ask", ("a", (0, 0, 0)))),), (("row", ("ask", ("a", (0, 0, 0, 0, 0)))),),
    (("row", ("ask", ("a", [0, 0, 0, 0]))),), (("row", ("times", A, A, B, C)),), (("row", ("times", B, B, A, C)),),
    (("row", ("mark", 2)),), (("row", ("mark", -1)),), (("row", ("mark", True)),), (("row", ("set", A, False)),),
    (("rows", ("mark", 0)),), (("round", (0, 0, 0), (), ()),), (("rounds", (0, 0, 0), ()),),
    (("rounds", (0, 0, 0), (), (), ()),), (("rounds", (0, 0), (), ()),), (("rounds", (0, 0, 0, 0), (), ()),),
    (("rounds", [0, 0, 0], (), ()),), (("rounds", (0, 0, 0), [], ()),), (("rounds", (0, 0, 0), (), []),),
    (("rounds", (0, 0, 0), (), [ONE_ROW]),), (("rounds", (0, 0, 0), (), ONE_ROW),), (("rounds", (0, 0, 0), TERM, ()),),
    (rounds((1, 0, 0), sentence=(TERM,) * 21),), (rounds((1, 0, 0), rounds((1, 0, 0), rounds((1, 0, 0)))),),
    (rounds((1, 0, 0), rounds((1, 0, 0), ONE_ROW, rounds((0, 0, 0)))),), rounds((1, 0, 0)), ((),), ("",), (None,),
]


def row_at(at, letter="k"):
    """The part of a row that asks a told cell."""
    return ("row", ("ask", (letter, at)))


def asked(*places):
    return tuple(("ask", ("k", place)) for place in places)


class LookerTest(unittest.TestCase):
    def test_right_ones(self):
        for thing in RIGHT:
            self.assertIs(is_telling(thing), True, thing)

    def test_wrong_ones(self):
        for thing in WRONG + [each for each in STRANGE if each != ()]:
            self.assertIs(is_telling(thing), False, thing)

    def test_numbers(self):
        for number in (-200, 200, -201, 201, True, False, "0", None, (), [0], 10 ** 59):
            right = type(number) is int and abs(number) <= 200
            for at in range(4):
                told = AT[:at] + (number,) + AT[at + 1:]
                for part in (row_at(told), ("row", ("times", A, B, ("k", told), C)), ("row", ("move", ("k", told), A))):
                    for thing in ((part,), (rounds((0, 0, 0), part),), (rounds((0, 0, 0), rounds((0, 0, 0), part)),)):
                        self.assertIs(is_telling(thing), right, thing)
            for at in range(3):
                count = AT[:at] + (number,) + AT[at + 1:3]
                for thing in ((rounds(count),), (rounds((1, 0, 0), rounds(count)),)):
                    self.assertIs(is_telling(thing), right, thing)

    def test_letters(self):
        for letter in ("a", "m", "z", "", "aa", "A", "`", "{", " ", "1", 0, True, None, (), ("a",), ["a"]):
            self.assertIs(is_telling((row_at(AT, letter),)), letter in ("a", "m", "z"), letter)

    def test_changed_once(self):
        inner = rounds((0, 1, 0), ("row", ("times", A, B, C, D)), sentence=(TERM,))
        for thing in [(rounds((1, 2, 3), inner, ("row", ("set", A, 1))),), (("row", ("sum", A, B, C)),), (ONE_ROW,)]:
            came = {True: 0, False: 0}
            for other in changed(thing):
                told = is_telling(other)
                self.assertIs(told, model.is_telling(other), other)
                came[told] += 1
            self.assertTrue(came[True] > 2 and came[False] > 100, came)

    def test_rows_changed_once(self):
        for row in ROWS:
            for other in changed(row):
                self.assertIs(is_telling((("row", other),)), model.is_telling((("row", other),)), other)

    def test_deep_things(self):
        deep = nested(100000)
        for thing in (deep, (deep, deep), (("row", deep),), (("rounds", deep, (), ()),),
                      (("rounds", (1, 0, 0), deep, ()),), (("rounds", (1, 0, 0), (), deep),),
                      (("row", ("ask", deep)),), (("row", ("ask", ("a", deep))),)):
            self.assertIs(is_telling(thing), False)
            with self.assertRaises(NoTelling):
                unrolled(thing, 4, 1)

    def test_told_ones(self):
        for deed in deeds_for(16, 4):
            self.assertIs(is_telling(telling(deed)), True, deed)


def deeds_for(w, n):
    k = w * n
    shifted = [(name, s) for name in SHIFTS for s in sorted({0, 1, w, k - 1, k, k + 1, 100})]
    return [(name,) for name in NAMED] + shifted + [("led", *each) for each in LED if 1 <= n + each[2] <= 8]


class UnrolledTest(unittest.TestCase):
    def check(self, thing, wanted, w=4, n=1):
        told = unrolled(thing, w, n)
        self.assertEqual(told, wanted)
        self.assertIs(type(told), tuple)

    def check_refused(self, thing, w=4, n=1):
        with self.assertRaises(NoTelling, msg=thing):
            unrolled(thing, w, n)

    def test_rows(self):
        self.check((), ())
        self.check((ONE_ROW,), (("mark", 0),))
        told = [("set", A, 1), ("times", A, ("b", AT), A, A), ("sum", A, A, A), ("ask", A), ("half", A, A), ("mark", 1)]
        came = [("set", ("a", 0), 1), ("times", ("a", 0), ("b", 0), ("a", 0), ("a", 0)),
                ("sum", ("a", 0), ("a", 0), ("a", 0)), ("ask", ("a", 0)), ("half", ("a", 0), ("a", 0)), ("mark", 1)]
        self.check(tuple(("row", row) for row in told), tuple(came))

    def test_counts(self):
        for w, n in [(4, 1), (4, 3), (7, 2), (16, 4)]:
            for count, many in [
                ((0, 0, 0), 0), ((1, 0, 0), 1), ((5, 0, 0), 5), ((-1, 0, 0), 0), ((-200, 0, 0), 0), ((0, 1, 0), n),
                ((1, 1, 0), n + 1), ((-1, 1, 0), n - 1), ((-2, 1, 0), max(0, n - 2)), ((0, 2, 0), 2 * n),
                ((0, 0, 1), w * n), ((-3, 0, 1), w * n - 3), ((0, -1, 1), w * n - n), ((2, 1, 1), w * n + n + 2),
                ((0, 0, -1), 0), ((100, 0, -1), 100 - w * n), ((0, -1, 0), 0), ((4, -1, 0), 4 - n),
            ]:
                self.check((rounds(count, ONE_ROW),), (("mark", 0),) * many, w, n)
                self.check((rounds((1, 0, 0), rounds(count, ONE_ROW)),), (("mark", 0),) * many, w, n)

    def test_places(self):
        self.check((row_at((7, 5, 5, 0)),), asked(7))
        self.check((row_at((7, 5, 5, 2)),), asked(13), n=3)
        self.check((rounds((3, 0, 0), row_at((1, 10, 100, 1))),), asked(3, 13, 23), n=2)
        self.check((rounds((3, 0, 0), row_at((30, -10, 0, 0))),), asked(30, 20, 10))
        inner = rounds((2, 0, 0), row_at((1, 10, 3, 2)))
        self.check((rounds((2, 0, 0), inner, row_at((0, 1, 50, 0))),), asked(3, 6, 0, 13, 16, 1))
        self.check((rounds((2, 0, 0), inner), row_at((5, 9, 9, 0))), asked(3, 6, 13, 16, 5))

    def test_rounds_are_counted_anew(self):
        part = rounds((2, 0, 0), rounds((2, 0, 0), row_at((0, 10, 1, 0))), rounds((1, 0, 0), row_at((5, 10, 1, 0))))
        self.check((part, part), asked(0, 1, 5, 10, 11, 15) * 2)

    def test_no_rounds(self):
        self.check((rounds((0, 0, 0), row_at((-5, 0, 0, 0))), ONE_ROW), (("mark", 0),))
        self.check((rounds((-9, 1, 0), rounds((4, 0, 0), row_at((-5, 0, 0, 0)))), ONE_ROW), (("mark", 0),))
        self.check((rounds((4, 0, 0), rounds((-4, 1, 0), row_at((-5, 0, 0, 0)))), ONE_ROW), (("mark", 0),))

    def test_edges_of_places(self):
        for place in (0, 99):
            self.check((row_at((place, 0, 0, 0)),), asked(place))
            self.check((row_at((place - 3, 0, 0, 1)),), asked(place), n=3)
        for place in (-1, 100, -200, 200):
            self.check_refused((row_at((place, 0, 0, 0)),))
            self.check_refused((ONE_ROW, ONE_ROW, ("row", ("times", A, ("b", AT), A, ("k", (place, 0, 0, 0))))))
            self.check_refused((row_at((place - 3, 0, 0, 1)),), n=3)
        self.check((rounds((100, 0, 0), row_at((0, 1, 0, 0))),), asked(*range(100)))
        self.check_refused((rounds((101, 0, 0), row_at((0, 1, 0, 0))),))
        self.check((rounds((100, 0, 0), row_at((99, -1, 0, 0))),), asked(*range(99, -1, -1)))
        self.check_refused((rounds((101, 0, 0), row_at((99, -1, 0, 0))),))
        self.check_refused((rounds((2, 0, 0), rounds((3, 0, 0), row_at((95, 2, 2, 0)))),))
        self.check((rounds((2, 0, 0), rounds((2, 0, 0), row_at((95, 2, 2, 0)))),), asked(95, 97, 97, 99))

    def test_low_and_high_that_come_to_one_cell(self):
        part = ("row", ("times", ("k", (2, 0, 0, 0)), ("k", (0, 0, 0, 1)), A, A))
        self.check((part,), (("times", ("k", 2), ("k", 1), ("a", 0), ("a", 0)),), n=1)
        self.check_refused((part,), n=2)
        part = ("row", ("times", ("k", (2, 0, 0, 0)), ("k", (0, 1, 0, 0)), A, A))
        self.assertEqual(len(unrolled((rounds((2, 0, 0), part),), 4, 1)), 2)
        self.check_refused((rounds((3, 0, 0), part),))
        part = ("row", ("times", ("k", (2, 0, 0, 0)), ("l", (0, 1, 0, 0)), A, A))
        self.assertEqual(len(unrolled((rounds((3, 0, 0), part),), 4, 1)), 3)

    def test_rows_in_all(self):
        self.check((ONE_ROW,) * 4000, (("mark", 0),) * 4000)
        self.check_refused((ONE_ROW,) * 4001)
        self.check((rounds((200, 0, 0), *[ONE_ROW] * 20),), (("mark", 0),) * 4000)
        self.check_refused((rounds((200, 0, 0), *[ONE_ROW] * 20), ONE_ROW))
        self.check_refused((ONE_ROW, rounds((200, 0, 0), *[ONE_ROW] * 20)))
        part = rounds((100, 0, 0), rounds((20, 0, 0), ONE_ROW, ONE_ROW))
        self.check((part,), (("mark", 0),) * 4000)
        self.check_refused((part, ONE_ROW))
        self.check((rounds((0, 200, 0), *[ONE_ROW] * 5),), (("mark", 0),) * 4000, n=4)
        self.check_refused((rounds((1, 200, 0), *[ONE_ROW] * 5),), n=4)

    def test_rounds_in_all(self):
        most = rounds((200, 0, 0), rounds((19, 0, 0)))
        one = rounds((1, 0, 0))
        self.check((most,), ())
        self.check_refused((most, one))
        self.check_refused((one, most))
        self.check((most, ONE_ROW, rounds((0, 0, 0), one)), (("mark", 0),))
        self.check_refused((most, ONE_ROW, rounds((0, 1, 0), ONE_ROW)))
        self.check((rounds((0, 0, 125)),), (), w=16, n=2)
        self.check_refused((rounds((1, 0, 125)),), w=16, n=2)
        self.check((rounds((0, 0, 125), ONE_ROW),), (("mark", 0),) * 4000, w=16, n=2)
        self.check_refused((rounds((0, 0, 125), ONE_ROW), one), w=16, n=2)
        self.check((rounds((1, 0, 0), rounds((199, 0, 95))),), (), w=10, n=4)
        self.check_refused((rounds((1, 0, 0), rounds((200, 0, 95))),), w=10, n=4)
        self.check_refused((rounds((200, 200, 200), rounds((200, 200, 200))),), w=16, n=4)

    def test_no_tellings(self):
        for thing in WRONG + [each for each in STRANGE if each != ()]:
            self.check_refused(thing)

    def test_changed_once(self):
        told = (rounds((1, 2, 0), rounds((0, 1, 0), row_at((1, 1, 1, 1)), sentence=(TERM,)), ("row", ("set", A, 1))),)
        for other in changed(told):
            if not model.is_telling(other):
                self.check_refused(other, n=2)
                continue
            came = steps(other, 4, 2) if other != () else []
            rows = tuple(step[1] for step in came if step[0] == "row")
            if all(model.is_done_row(row) for row in rows):
                self.check(other, rows, n=2)
            else:
                self.check_refused(other, n=2)

    def test_refused_may_be_asked_again(self):
        thing = [ONE_ROW]
        self.check_refused(thing)
        self.check_refused(thing)
        self.assertEqual(thing, [ONE_ROW])
        self.check(tuple(thing), (("mark", 0),))

    def test_told_ones(self):
        for w, n in SHAPES:
            for deed in deeds_for(w, n):
                told = telling(deed)
                self.check(told, tuple(step[1] for step in steps(told, w, n) if step[0] == "row"), w, n)

    def test_drawn_ones(self):
        for seed in range(200):
            few = iter(drawn(seed, 200, 1000))
            w, n = 4 + next(few) % 13, 1 + next(few) % 4
            told = tuple(drawn_part(few, 0) for part in range(1 + next(few) % 3))
            rows = tuple(step[1] for step in steps(told, w, n) if step[0] == "row")
            if len(rows) <= 4000 and all(model.is_done_row(row) for row in rows):
                self.check(told, rows, w, n)
            else:
                self.check_refused(told, w, n)


def drawn_part(few, depth):
    if depth == 2 or next(few) % 3 == 0:
        return row_at((20 + next(few) % 40, next(few) % 5 - 2, next(few) % 5 - 2, next(few) % 5 - 2))
    count = (next(few) % 5 - 1, next(few) % 3 - 1, int(next(few) % 4 == 0 and depth == 0))
    return rounds(count, *[drawn_part(few, depth + 1) for part in range(next(few) % 4)])
