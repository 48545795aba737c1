import itertools
import unittest

from tests.changes import STRANGE, changed, nested
from tests.model import Model, WIDTHS, drawn, is_done_row
from tests.test_rows import LONE
from widewords.errors import NoCell, NoRow, NoWord
from widewords.machine import Machine

X, Y, TO, HIGH = ("x", 0), ("y", 99), ("t", 5), ("u", 7)
CELLS = (X, Y, TO, HIGH)
PAIRED = ("sum", "less", "both", "any", "odd")
SINGLE = ("move", "bare", "twice", "half")
NO_CELLS = [
    ("A", 0), ("", 0), ("ab", 0), ("`", 0), ("{", 0), (" ", 0), ("1", 0), (0, 0), (None, 0), (True, 0), ((), 0),
    (("a",), 0), (["a"], 0), ([], []), (("a", 0), 0), ("a", -1), ("a", 100), ("a", 10 ** 59), ("a", -10 ** 59),
    ("a", True), ("a", False), ("a", "0"), ("a", ""), ("a", None), ("a", ()), ("a", (0,)), ("a", [0]), ("a", []),
    ("a", (0, 0, 0, 0)), ("a", "a"), (0, "a"), (None, None),
]


def edge_words(w):
    return (0, 1, 2 ** (w - 1), 2 ** w - 1)


def rows_of_each_kind():
    """Each of the thirteen rows, with all ways in which its cells may be alike."""
    found = [("mark", 0), ("mark", 1), ("ask", X), ("set", TO, 0), ("set", TO, 1)]
    found += [(name, to, X) for name in SINGLE for to in (TO, X)]
    found += [(name, to, x, y) for name in PAIRED for to in (TO, X, Y) for x in (X, Y) for y in (X, Y)]
    for low, high in itertools.permutations(CELLS, 2):
        found += [("times", low, high, x, y) for x in (X, Y) for y in (X, Y)]
    return found


def state(machine):
    """All words and the mark of a machine."""
    letters = "abcdefghijklmnopqrstuvwxyz"
    return [machine.word(letter, at) for letter in letters for at in range(100)], machine.mark()


def made(w, words, mark):
    """A machine with these words in the cells, and the mark."""
    machine = Machine(w)
    for (letter, at), word in zip(CELLS, words):
        machine.put(letter, at, word)
    machine.do(("mark", mark))
    return machine


class RowsTest(unittest.TestCase):
    def check_row(self, row, w, words, mark):
        machine = made(w, words, mark)
        model = Model(w)
        model.cells = dict(zip(CELLS, words))
        model.mark = mark
        self.assertIsNone(machine.do(row))
        model.do(row)
        came = [machine.word(*cell) for cell in CELLS] + [machine.mark()]
        self.assertEqual(came, [model.word(cell) for cell in CELLS] + [model.mark], (row, w, words, mark))
        self.assertTrue(all(type(each) is int for each in came))

    def test_told(self):
        for row, words, mark, put, wanted, left in [
            (("set", TO, 1), (0, 0), 1, TO, 1, 1),
            (("set", X, 0), (9, 0), 0, X, 0, 0),
            (("move", TO, X), (9, 0), 1, TO, 9, 1),
            (("bare", X, X), (9, 0), 0, X, 6, 0),
            (("sum", TO, X, Y), (9, 7), 0, TO, 0, 1),
            (("sum", TO, X, Y), (9, 6), 1, TO, 0, 1),
            (("sum", X, X, X), (15, 0), 1, X, 15, 1),
            (("sum", TO, X, Y), (7, 7), 1, TO, 15, 0),
            (("less", TO, X, Y), (0, 15), 1, TO, 0, 1),
            (("less", TO, X, Y), (3, 2), 1, TO, 0, 0),
            (("less", TO, X, Y), (3, 3), 1, TO, 15, 1),
            (("both", TO, X, Y), (12, 10), 1, TO, 8, 1),
            (("any", TO, X, Y), (12, 10), 0, TO, 14, 0),
            (("odd", Y, X, Y), (12, 10), 1, Y, 6, 1),
            (("twice", TO, X), (9, 0), 0, TO, 2, 1),
            (("twice", TO, X), (7, 0), 1, TO, 15, 0),
            (("half", TO, X), (9, 0), 1, TO, 12, 1),
            (("half", TO, X), (8, 0), 0, TO, 4, 0),
            (("times", TO, HIGH, X, Y), (15, 15), 1, TO, 1, 1),
            (("times", HIGH, TO, X, Y), (15, 15), 0, TO, 14, 0),
            (("times", X, Y, X, Y), (15, 14), 0, X, 2, 0),
            (("times", Y, X, X, Y), (15, 14), 0, X, 13, 0),
            (("mark", 1), (0, 0), 0, X, 0, 1),
            (("mark", 0), (0, 0), 1, X, 0, 0),
            (("ask", X), (8, 0), 0, X, 8, 1),
            (("ask", X), (0, 5), 1, X, 0, 0),
        ]:
            machine = made(4, words, mark)
            machine.do(row)
            self.assertEqual((machine.word(*put), machine.mark()), (wanted, left), row)

    def test_each_row(self):
        for row in rows_of_each_kind():
            self.assertTrue(is_done_row(row))
            for w in (4, 16):
                for x, y in itertools.product(edge_words(w), repeat=2):
                    for mark in (0, 1):
                        self.check_row(row, w, (x, y, 3, 6), mark)

    def test_each_width(self):
        for row in rows_of_each_kind():
            for w in WIDTHS:
                for x, y in zip(drawn(w, 3, 2 ** w), drawn(w + 1, 3, 2 ** w)):
                    self.check_row(row, w, (x, y, 2 ** w - 1, 0), (x + y) % 2)

    def test_every_pair_of_small_words(self):
        for name in PAIRED:
            for x, y, mark in itertools.product(range(16), range(16), range(2)):
                self.check_row((name, TO, X, Y), 4, (x, y, 0, 0), mark)

    def test_many_rows(self):
        for w in WIDTHS:
            machine, model = Machine(w), Model(w)
            for cell, word in zip(CELLS, drawn(w, 4, 2 ** w)):
                machine.put(*cell, word)
                model.cells[cell] = word
            kinds = rows_of_each_kind()
            rows = [kinds[at] for at in drawn(w * 3, 300, len(kinds))]
            self.assertIsNone(machine.run(rows if w % 2 else tuple(rows)))
            for row in rows:
                model.do(row)
            came = [machine.word(*cell) for cell in CELLS] + [machine.mark()]
            self.assertEqual(came, [model.word(cell) for cell in CELLS] + [model.mark])


class CellsTest(unittest.TestCase):
    def test_at_the_beginning(self):
        words, mark = state(Machine(4))
        self.assertEqual((set(words), mark), ({0}, 0))

    def test_put(self):
        for w in WIDTHS:
            machine = Machine(w)
            for cell in [("a", 0), ("z", 99), ("m", 50)]:
                for word in edge_words(w):
                    self.assertIsNone(machine.put(*cell, word))
                    self.assertEqual(machine.word(*cell), word)
            self.assertEqual(sum(map(bool, state(machine)[0])), 3)
            self.assertEqual(machine.mark(), 0)

    def test_no_cell(self):
        deep = nested(100000)
        for letter, at in NO_CELLS + [(deep, 0), ("a", deep)]:
            machine = made(4, (1, 2, 3, 4), 1)
            before = state(machine)
            for word in (0, 15, 16, -1, None):
                with self.assertRaises(NoCell):
                    machine.put(letter, at, word)
            with self.assertRaises(NoCell):
                machine.word(letter, at)
            self.assertEqual(state(machine), before)

    def test_anything_for_a_cell(self):
        machine = Machine(4)
        for letter, at in itertools.product(STRANGE, STRANGE):
            if is_done_row(("ask", (letter, at))):
                self.assertEqual(machine.word(letter, at), 0)
            else:
                with self.assertRaises(NoCell):
                    machine.word(letter, at)
                with self.assertRaises(NoCell):
                    machine.put(letter, at, 0)

    def test_no_word(self):
        for w in WIDTHS:
            machine = made(w, (1, 2, 3, 4), 1)
            before = state(machine)
            for word in (-1, 2 ** w, 2 ** w + 1, 10 ** 59, -10 ** 59, True, False, "", "0", None, (), [], (0,), [1],
                         ("a", 0), nested(100000)):
                with self.assertRaises(NoWord):
                    machine.put("x", 0, word)
            self.assertEqual(state(machine), before)


class NoRowTest(unittest.TestCase):
    def check_refused(self, thing):
        machine = made(4, (1, 2, 3, 4), 1)
        before = state(machine)
        for rows in ([thing], (thing,), [("set", X, 0), ("mark", 0), thing], (("bare", Y, X), thing, ("mark", 0))):
            with self.assertRaises(NoRow):
                machine.run(rows)
        with self.assertRaises(NoRow):
            machine.do(thing)
        self.assertEqual(state(machine), before)

    def test_strange_things(self):
        deep = nested(100000)
        for thing in LONE + [deep, ("ask", deep), (deep, X), ("ask", ("a", deep)), ("mark", deep), (("mark", 0),)]:
            self.check_refused(thing)

    def test_told_rows(self):
        self.check_refused(("ask", ("a", (0, 0, 0, 0))))
        self.check_refused(("times", X, X, Y, TO))
        self.check_refused(("mark", 2))
        self.check_refused(("set", X, True))

    def test_changed_once(self):
        for row in [("set", X, 1), ("less", TO, X, Y), ("times", TO, HIGH, X, Y), ("ask", X), ("mark", 1)]:
            for thing in changed(row):
                machine = Machine(4)
                if is_done_row(thing):
                    machine.do(thing)
                    continue
                with self.assertRaises(NoRow, msg=thing):
                    machine.do(thing)
                with self.assertRaises(NoRow, msg=thing):
                    machine.run((row, thing))
                self.assertEqual([machine.word(*cell) for cell in CELLS] + [machine.mark()], [0, 0, 0, 0, 0])

    def test_no_rows_at_all(self):
        machine = made(4, (1, 2, 3, 4), 1)
        before = state(machine)
        self.assertIsNone(machine.run(()))
        self.assertIsNone(machine.run([]))
        self.assertEqual(state(machine), before)


class KeptApartTest(unittest.TestCase):
    def test_a_list_that_is_changed_behind_the_call(self):
        rows = [("set", X, 1), ("mark", 1)]
        machine = Machine(4)
        machine.run(rows)
        self.assertEqual(rows, [("set", X, 1), ("mark", 1)])
        before = state(machine)
        rows[0] = ("set", X, 0)
        rows.append(("mark", 0))
        self.assertEqual(state(machine), before)
        rows.clear()
        self.assertEqual(state(machine), before)

    def test_two_machines_by_turns(self):
        one, other = Machine(4), Machine(16)
        one.put("a", 0, 9)
        other.put("a", 0, 40000)
        one.do(("twice", ("b", 0), ("a", 0)))
        self.assertEqual((one.word("b", 0), one.mark()), (2, 1))
        self.assertEqual((other.word("b", 0), other.mark()), (0, 0))
        other.do(("half", ("b", 0), ("a", 0)))
        self.assertEqual((one.word("b", 0), one.mark(), one.word("a", 0)), (2, 1, 9))
        self.assertEqual((other.word("b", 0), other.mark(), other.word("a", 0)), (20000, 0, 40000))
        with self.assertRaises(NoWord):
            one.put("a", 0, 40000)
        other.put("a", 1, 16)
        self.assertEqual(one.word("a", 1), 0)

    def test_refused_may_be_asked_again(self):
        machine = Machine(4)
        for again in range(2):
            with self.assertRaises(NoWord):
                machine.put("a", 0, 16)
            with self.assertRaises(NoRow):
                machine.do(["mark", 1])
        machine.put("a", 0, 15)
        machine.do(("mark", 1))
        self.assertEqual((machine.word("a", 0), machine.mark()), (15, 1))
