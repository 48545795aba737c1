import unittest

from tests.desk_model import DeskModel, Refused
from tests.model import drawn
from widewords import errors
from widewords.desk import Desk

NAMES = ["a", "b", "c", "sum", "let", "undo", "abcdefgh", "left"]
WORTHS = [0, 1, 7, 8, 15, 16, 127, 128, 255, 256, 65535, -1, -8, -9, -128, -129, 2 ** 64 - 1, -2 ** 63, 10 ** 59]
WIDTHS = [4, 4, 4, 4, 5, 8, 16, 3, 17]
MANIES = [1, 2, 2, 2, 3, 4, 4, 0, 5]
PLACES = [0, 1, 1, 2, 3, 4, 7, 8, 9, 100, 101, -1]
TWO = ["sum", "difference", "both", "any", "odd", "product", "sproduct", "quotient", "squotient"]
ONE = ["turned", "bare", "left", "right", "down", "roll"]
SHIFTS = ["left", "right", "down", "roll"]

# A session: each line and its answer.
SESSION = [
    ("names", "none"),
    ("plain a 4 2 200", "1100 1000"),
    ("signed b 4 2 -56", "1100 1000"),
    ("plain x 4 2 100", "0110 0100"),
    ("plain wide 16 1 32768", "1000000000000000"),
    ("signed least 5 2 -512", "10000 00000"),
    ("names", "a b least wide x"),
    ("let c sum a x", "0010 1100 1000"),
    ("let c difference x a", "1001 1100 1101"),
    ("let c turned a", "0011 1000 1000"),
    ("let c turned least", "10000 00000 1101"),
    ("let c both a x", "0100 0000 0000"),
    ("let c any a x", "1110 1100 0001"),
    ("let c odd a a", "0000 0000 0010"),
    ("let c bare a", "0011 0111 0000"),
    ("let c left 1 a", "1001 0000 1001"),
    ("let c left 0 a", "1100 1000 0001"),
    ("let c right 4 a", "0000 1100 1000"),
    ("let c down 100 a", "1111 1111 1001"),
    ("let c roll 9 a", "1001 0001 0001"),
    ("let p product a x", "0100 1110 0010 0000 0100"),
    ("let q sproduct a x", "1110 1010 0010 0000 0101"),
    ("plain seven 4 2 7", "0000 0111"),
    ("let c quotient a seven", "0001 1100 0000"),
    ("rest c a seven", "0000 0100 0000"),
    ("let c squotient a seven", "1111 1000 0001"),
    ("srest c a seven", "0000 0000 0001"),
    ("wider c a 1", "0000 1100 1000 0000"),
    ("swider c a 2", "1111 1111 1100 1000 0001"),
    ("wider c a 0", "1100 1000 0001"),
    ("narrower c a 1", "1000 0101"),
    ("snarrower c a 1", "1000 0101"),
    ("snarrower c seven 1", "0111 0000"),
    ("show p", "0100 1110 0010 0000"),
    ("worth p", "20000"),
    ("sworth p", "20000"),
    ("worth q", "59936"),
    ("sworth q", "-5600"),
    ("sworth a", "-56"),
    ("worth a", "200"),
    ("compare a x", "more less"),
    ("compare x a", "less more"),
    ("compare a b", "alike alike"),
    ("compare seven x", "less less"),
    ("carries a x", "6-8"),
    ("carries seven seven", "0-1 1-2 2-3"),
    ("carries a seven", "none"),
    ("names", "a b c least p q seven wide x"),
    ("drop c", "done"),
    ("names", "a b least p q seven wide x"),
    ("undo", "done"),
    ("show c", "0111"),
    ("redo", "done"),
    ("names", "a b least p q seven wide x"),
]


class DeskCase(unittest.TestCase):
    def desk_with(self, *lines):
        desk = Desk()
        for line in lines:
            desk.tell(line)
        return desk

    def check_refused(self, desk, refusal, line):
        """Refused twice, with nothing else, and nothing is changed by it."""
        before = state(desk)
        for again in range(2):
            with self.assertRaises(errors.WordError, msg=line) as caught:
                desk.tell(line)
            self.assertEqual(type(caught.exception).__name__, refusal, line)
        self.assertEqual(state(desk), before)


def state(desk):
    """All names of a desk and what they stand for."""
    names = desk.tell("names")
    return [] if names == "none" else [(name, desk.tell(f"show {name}")) for name in names.split(" ")]


class SessionTest(DeskCase):
    def test_told(self):
        desk, model = Desk(), DeskModel()
        for line, answer in SESSION:
            told = desk.tell(line)
            self.assertEqual(told, answer, line)
            self.assertIs(type(told), str)
            self.assertEqual(model.tell(line), answer, line)

    def test_rows(self):
        desk, model = Desk(), DeskModel()
        for deed in TWO + ["turned", "bare"] + [f"{name} {s}" for name in SHIFTS for s in (0, 1, 17, 100)]:
            for w, n in [(4, 1), (4, 4), (9, 2), (16, 4)]:
                line = f"rows {deed} {w} {n}"
                self.assertEqual(desk.tell(line), model.tell(line), line)
        self.assertEqual(desk.tell("names"), "none")

    def test_names_that_are_words_of_the_lines(self):
        desk = self.desk_with("plain let 4 1 3", "plain sum 4 1 5")
        self.assertEqual(desk.tell("let let sum let sum"), "1000 0101")
        self.assertEqual(desk.tell("let left left 1 sum"), "1010 0001")
        self.assertEqual(desk.tell("let undo turned left"), "0110 1000")
        self.assertEqual(desk.tell("show undo"), "0110")
        self.assertEqual(desk.tell("drop undo"), "done")
        self.assertEqual(desk.tell("undo"), "done")
        self.assertEqual(desk.tell("names"), "left let sum undo")
        self.assertEqual(desk.tell("plain names 4 1 0"), "0000")
        self.assertEqual(desk.tell("plain none 4 1 0"), "0000")
        self.assertEqual(desk.tell("names"), "left let names none sum undo")

    def test_a_name_that_is_asked_and_given(self):
        desk = self.desk_with("plain a 4 1 9", "plain b 4 1 4")
        self.assertEqual(desk.tell("let a sum a b"), "1101 0001")
        self.assertEqual(desk.tell("let b sum a b"), "0001 1000")
        self.assertEqual(desk.tell("let a difference a a"), "0000 0010")
        self.assertEqual(desk.tell("rest b b b"), "0000 0000")
        self.assertEqual(desk.tell("wider a a 1"), "0000 0000 0010")
        self.assertEqual(desk.tell("let a bare a"), "1111 1111 0001")
        self.assertEqual(desk.tell("let a product a a"), "1111 1110 0000 0001 0101")
        self.assertEqual(state(desk), [("a", "1111 1110 0000 0001"), ("b", "0000")])

    def test_names_are_sorted(self):
        desk = self.desk_with(*[f"plain {name} 4 1 0" for name in ("b", "aa", "z", "a", "ab", "abcdefgh", "ba")])
        self.assertEqual(desk.tell("names"), "a aa ab abcdefgh b ba z")

    def test_widest_numbers(self):
        top = 2 ** 64 - 1
        desk = self.desk_with(f"plain a 16 4 {top}")
        self.assertEqual(desk.tell("let p product a a"), " ".join(["1" * 16] * 3 + ["1" * 15 + "0"] + ["0" * 16] * 3
                                                                  + ["0" * 15 + "1"]) + " 0101")
        self.assertEqual(desk.tell("worth p"), str(top * top))
        self.assertEqual(desk.tell("sworth p"), str(top * top - 2 ** 128))
        self.assertEqual(desk.tell("carries a a"), " ".join(f"{p}-{p + 1}" for p in range(64)))

    def test_a_desk_is_told_anew_for_each_name(self):
        desk = self.desk_with("plain a 4 2 200", "plain a 16 1 5")
        self.assertEqual(desk.tell("show a"), "0000000000000101")
        self.assertEqual(desk.tell("let a left 1 a"), "0000000000001010 0000")


class RefusedTest(DeskCase):
    LINES = ("plain a 4 2 200", "plain z 4 2 0", "plain w 5 2 7", "plain n 4 1 7", "let p product a a",
             "plain y 5 2 0", "plain big 4 4 9", "let huge product big big")

    def test_no_line(self):
        desk = self.desk_with(*self.LINES)
        for line in ["", " ", "show", "show a ", " show a", "show  a", "Show a", "show A", "show abcdefghi", "sum a a",
                     "let c sum a", "let c sum a a a", "let c compare a a", "plain x 4 2", "plain x 4 2 -0",
                     "plain x 4 2 007", "plain x 04 2 7", "plain x 4 2 1" + "0" * 60, "rows led 4 2", "undo 1",
                     "redo a", "names a", "carries a", "let c left a", "let c left +1 a", "wider c a", "narrower c a b"]:
            self.check_refused(desk, "NoLine", line)

    def test_no_line_ahead_of_all_others(self):
        desk = self.desk_with(*self.LINES)
        for line in ["show missing a", "let c left 101 a a", "rows sum 3", "let c sum a w w", "plain x 4 1 99 99",
                     "let c quotient a z z", "redo redo", "plain x 3 0 -01", "let c left 101 Missing",
                     "wider c missing -00", "let c compare missing w", "rows left 101 4 2 2"]:
            self.check_refused(desk, "NoLine", line)

    def test_no_name(self):
        desk = self.desk_with(*self.LINES)
        for line in ["show q", "worth q", "sworth q", "drop q", "compare a q", "compare q a", "carries a q",
                     "carries q q", "let c sum a q", "let q sum q a", "let c turned q", "let q left 3 q", "rest c a q",
                     "srest q q a", "wider c q 1", "swider q q 1", "narrower c q 1", "snarrower c q 0"]:
            self.check_refused(desk, "NoName", line)

    def test_no_name_ahead_of_the_others(self):
        desk = self.desk_with(*self.LINES)
        for line in ["let c left 101 q", "let c roll -1 q", "wider c q 101", "narrower c q -1", "narrower c q 4",
                     "let c sum q p", "let c sum p q", "compare q p", "carries p q", "rest c q p",
                     "let c quotient q z", "rest c q z", "srest c q z", "let c squotient q z"]:
            self.check_refused(desk, "NoName", line)

    def test_no_width(self):
        desk = self.desk_with(*self.LINES)
        big = 10 ** 59
        for line in ["plain x 3 2 1", "plain x 17 2 1", "plain x 4 0 0", "plain x 4 5 1", "plain x -4 2 1",
                     f"plain x {big} 2 1", f"signed x 4 {big} 1", "signed x 3 1 0", "signed x 4 -1 0", "rows sum 3 1",
                     "rows sum 17 1", "rows sum 4 0", "rows sum 4 5", "rows left 101 4 1", "rows roll -1 4 1",
                     f"rows down {big} 4 1", "let c left 101 a", "let c right -1 a", f"let c down {big} a",
                     f"let c roll -{big} a", "wider c a 3", "wider c a -1", "wider c a 101", "swider c a 3",
                     "swider c big 1", "narrower c a 2", "narrower c a -1", "narrower c a -2", "snarrower c a 2",
                     f"snarrower c a {big}", "narrower c n 1", "wider c n 4", "narrower c a 100"]:
            self.check_refused(desk, "NoWidth", line)

    def test_edges_of_widths(self):
        desk = self.desk_with(*self.LINES)
        for line in ["plain x 4 1 0", "plain x 16 4 0", "signed x 16 1 0", "rows sum 4 4", "rows left 100 16 4",
                     "rows roll 0 4 1", "let c left 100 a", "let c down 0 a", "wider c a 2", "swider c a 0",
                     "narrower c a 1", "snarrower c big 3", "wider c n 3", "narrower c n 0"]:
            desk.tell(line)

    def test_no_width_ahead_of_the_others(self):
        desk = self.desk_with(*self.LINES)
        for line in ["let c left 101 huge", "let c roll -1 huge", "wider c huge 0", "narrower c huge 3",
                     "snarrower c huge 8", "narrower c huge 0", "swider c huge 1", "narrower c huge 101",
                     "plain x 3 1 99999", "plain x 4 5 -1", "plain x 17 4 -1", "signed x 4 0 1", "signed x 3 1 -9999"]:
            self.check_refused(desk, "NoWidth", line)

    def test_no_pair(self):
        desk = self.desk_with(*self.LINES)
        for deed in TWO:
            for one, other in ["aw", "wa", "an", "na", "wn", ("a", "p"), ("huge", "huge"), ("big", "huge")]:
                self.check_refused(desk, "NoPair", f"let c {deed} {one} {other}")
        for line in ["turned huge", "bare huge", "left 1 huge", "right 0 huge", "down 100 huge", "roll 3 huge"]:
            self.check_refused(desk, "NoPair", f"let c {line}")
        for first in ("compare", "carries", "rest c", "srest c"):
            for one, other in ["aw", "wa", "an", "na", ("huge", "huge"), ("huge", "a"), ("big", "huge")]:
                self.check_refused(desk, "NoPair", f"{first} {one} {other}")
        for line in ["narrower c huge 4", "snarrower c huge 7", "narrower huge huge 5"]:
            self.check_refused(desk, "NoPair", line)

    def test_no_pair_ahead_of_no_quotient(self):
        desk = self.desk_with(*self.LINES)
        for line in ["let c quotient a y", "let c squotient w z", "rest c n z", "srest c a y"]:
            self.check_refused(desk, "NoPair", line)
        desk.tell("let nil difference big big")
        desk.tell("let nil product nil nil")
        for line in ["let c quotient nil nil", "rest c huge nil", "srest c a nil"]:
            self.check_refused(desk, "NoPair", line)

    def test_wide_numbers_in_the_lines_that_take_them(self):
        desk = self.desk_with(*self.LINES)
        self.assertEqual(desk.tell("show huge"), " ".join(["0000"] * 6 + ["0101", "0001"]))
        self.assertEqual(desk.tell("worth huge"), "81")
        self.assertEqual(desk.tell("sworth huge"), "81")
        self.assertEqual(desk.tell("drop huge"), "done")
        self.assertEqual(desk.tell("let c sum p p"), "0011 1000 1000 0000 1100")

    def test_five_to_eight_words(self):
        desk = self.desk_with("plain a 4 3 4095", "let p product a a", "plain b 4 2 3", "let q product b b")
        self.check_refused(desk, "NoPair", "let c turned p")
        self.check_refused(desk, "NoPair", "compare p p")
        self.check_refused(desk, "NoPair", "narrower c p 2")
        self.check_refused(desk, "NoWidth", "narrower c p 1")
        self.assertEqual(desk.tell("compare q q"), "alike alike")
        self.assertEqual(desk.tell("narrower c q 2"), "0000 1001 0000")

    def test_no_fit(self):
        desk = self.desk_with(*self.LINES)
        for w, n in [(4, 1), (4, 4), (9, 2), (16, 4)]:
            k = w * n
            for worth in (-1, 2 ** k, 10 ** 59, -10 ** 59):
                self.check_refused(desk, "NoFit", f"plain x {w} {n} {worth}")
            for worth in (-2 ** (k - 1) - 1, 2 ** (k - 1), 10 ** 60 - 1, 1 - 10 ** 60):
                self.check_refused(desk, "NoFit", f"signed x {w} {n} {worth}")
            for line in (f"plain x {w} {n} {2 ** k - 1}", f"signed x {w} {n} {-2 ** (k - 1)}"):
                desk.tell(line)

    def test_no_quotient(self):
        desk = self.desk_with(*self.LINES)
        for line in ["let c quotient a z", "let c squotient a z", "rest c a z", "srest c a z", "let z quotient z z",
                     "rest a w y", "srest z z z"]:
            self.check_refused(desk, "NoQuotient", line)

    def test_no_undo(self):
        desk = Desk()
        for line in ("undo", "redo"):
            self.check_refused(desk, "NoUndo", line)
        desk.tell("plain a 4 1 0")
        self.check_refused(desk, "NoUndo", "redo")
        desk.tell("undo")
        self.check_refused(desk, "NoUndo", "undo")
        desk.tell("redo")
        self.check_refused(desk, "NoUndo", "redo")


class UndoTest(DeskCase):
    DEEDS = ["plain a 4 1 3", "signed b 4 1 -2", "let c sum a b", "let a product a b", "drop b", "swider c c 1",
             "plain b 4 1 5", "rest b b b", "narrower c c 1", "let c left 2 c"]

    def test_through_all_deeds(self):
        desk = Desk()
        states = [state(desk)]
        for line in self.DEEDS:
            desk.tell(line)
            states.append(state(desk))
        for back in range(len(states) - 1, 0, -1):
            self.assertEqual(state(desk), states[back])
            self.assertEqual(desk.tell("undo"), "done")
        self.assertEqual(state(desk), states[0])
        self.check_refused(desk, "NoUndo", "undo")
        for on in range(1, len(states)):
            self.assertEqual(desk.tell("redo"), "done")
            self.assertEqual(state(desk), states[on])
        self.check_refused(desk, "NoUndo", "redo")

    def test_a_new_deed_behind_undo(self):
        for line in ["plain d 4 1 1", "let d turned a", "drop a", "plain a 4 1 3", "wider d a 0", "rest d a a"]:
            desk = self.desk_with("plain a 4 1 3", "plain b 4 1 4", "undo", line)
            self.check_refused(desk, "NoUndo", "redo")
            desk.tell("undo")
            self.assertEqual(state(desk), [("a", "0011")])
            desk.tell("undo")
            self.assertEqual(state(desk), [])
            self.check_refused(desk, "NoUndo", "undo")

    def test_a_refusal_or_a_question_behind_undo(self):
        desk = self.desk_with("plain a 4 1 3", "plain b 4 1 4", "undo")
        for line, refusal in [("let c sum a b", "NoName"), ("plain a 4 1 16", "NoFit"), ("drop b", "NoName"),
                              ("show", "NoLine"), ("wider a a 9", "NoWidth")]:
            self.check_refused(desk, refusal, line)
        for line in ["names", "show a", "worth a", "sworth a", "compare a a", "carries a a", "rows sum 4 1"]:
            desk.tell(line)
        desk.tell("redo")
        self.assertEqual(state(desk), [("a", "0011"), ("b", "0100")])
        desk.tell("undo")
        self.assertEqual(state(desk), [("a", "0011")])

    def test_back_and_on_by_turns(self):
        desk = self.desk_with("plain a 4 1 1", "plain a 4 1 2", "plain a 4 1 3")
        for line, wanted in [("undo", "2"), ("undo", "1"), ("redo", "2"), ("redo", "3"), ("undo", "2"), ("undo", "1")]:
            self.assertEqual(desk.tell(line), "done")
            self.assertEqual(desk.tell("worth a"), wanted)
        desk.tell("plain a 4 1 9")
        self.check_refused(desk, "NoUndo", "redo")
        desk.tell("undo")
        self.assertEqual(desk.tell("worth a"), "1")

    def test_a_deed_that_changes_nothing_is_one(self):
        desk = self.desk_with("plain a 4 1 1", "plain a 4 1 1", "undo")
        self.assertEqual(desk.tell("worth a"), "1")
        desk.tell("undo")
        self.check_refused(desk, "NoName", "worth a")

    def test_drop_and_names(self):
        desk = self.desk_with("plain a 4 1 1", "plain b 4 1 2", "drop a")
        self.assertEqual(desk.tell("names"), "b")
        self.check_refused(desk, "NoName", "drop a")
        desk.tell("drop b")
        self.assertEqual(desk.tell("names"), "none")
        desk.tell("undo")
        desk.tell("undo")
        self.assertEqual(desk.tell("names"), "a b")


class DrawnTest(DeskCase):
    def check_told(self, desk, model, line):
        try:
            wanted = model.tell(line)
        except Refused as refused:
            wanted = refused
        if isinstance(wanted, str):
            self.assertEqual(desk.tell(line), wanted, line)
            return "told"
        with self.assertRaises(errors.WordError, msg=line) as caught:
            desk.tell(line)
        self.assertEqual(type(caught.exception).__name__, str(wanted), line)
        return str(wanted)

    def test_drawn_sessions(self):
        came = {}
        for seed in range(40):
            desk, model = Desk(), DeskModel()
            few = iter(drawn(seed, 4000, 10 ** 6))
            for step in range(150):
                line = drawn_line(few)
                told = self.check_told(desk, model, line)
                came[told] = came.get(told, 0) + 1
            self.assertEqual(state(desk), [(name, model.written(name)) for name in sorted(model.kept)])
        for refusal in ("told", "NoLine", "NoName", "NoWidth", "NoPair", "NoFit", "NoQuotient", "NoUndo"):
            self.assertGreater(came.get(refusal, 0), 20, came)

    def test_two_desks_by_turns(self):
        desks = [(Desk(), DeskModel()) for each in range(2)]
        few = iter(drawn(1000, 9000, 10 ** 6))
        for step in range(600):
            desk, model = desks[next(few) % 2]
            self.check_told(desk, model, drawn_line(few))
        for desk, model in desks:
            self.assertEqual(state(desk), [(name, model.written(name)) for name in sorted(model.kept)])
        self.assertNotEqual(state(desks[0][0]), state(desks[1][0]))


def one_of(few, things):
    return things[next(few) % len(things)]


def drawn_line(few):
    """A line of any kind, most of them with names that often stand for numbers of two words of width 4."""
    kind = next(few) % 20
    names = [one_of(few, NAMES) for each in range(3)]
    s = one_of(few, PLACES)
    if kind < 5:
        w, n = one_of(few, WIDTHS), one_of(few, MANIES)
        w, n = (4, 2) if next(few) % 3 else (w, n)
        return f"{one_of(few, ['plain', 'signed'])} {names[0]} {w} {n} {one_of(few, WORTHS)}"
    if kind < 9:
        return f"let {names[0]} {one_of(few, TWO)} {names[1]} {names[2]}"
    if kind < 11:
        deed = one_of(few, ONE)
        return f"let {names[0]} {deed} {names[1]}" if deed not in SHIFTS else f"let {names[0]} {deed} {s} {names[1]}"
    if kind == 11:
        return f"{one_of(few, ['rest', 'srest'])} {names[0]} {names[1]} {names[2]}"
    if kind < 14:
        return f"{one_of(few, ['wider', 'swider', 'narrower', 'snarrower'])} {names[0]} {names[1]} {s}"
    if kind < 16:
        return one_of(few, ["undo", "redo", "undo", "names", "undo now"])
    if kind == 16:
        deed = one_of(few, TWO + ONE)
        deed = f"{deed} {s}" if deed in SHIFTS else deed
        return f"rows {deed} {one_of(few, WIDTHS)} {one_of(few, MANIES)}"
    if kind == 17:
        return f"{one_of(few, ['compare', 'carries'])} {names[0]} {names[1]}"
    return f"{one_of(few, ['show', 'worth', 'sworth', 'drop', 'show 1', 'look'])} {names[0]}"
