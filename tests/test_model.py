"""The machine, the unrolling and the sentences that the other tests lean on."""

import unittest

from tests.model import Model, holds, is_done_row, is_sentence, is_telling, reckoned, steps, told

HERE = (0, 1, 0, 0)
SUM_SENTENCE = (
    (1, (0, 0, 0, 0, 0, 0), (("slice", "a", (0, 0, 0, 0), HERE),)),
    (1, (0, 0, 0, 0, 0, 0), (("slice", "b", (0, 0, 0, 0), HERE),)),
    (-1, (0, 0, 0, 0, 0, 0), (("slice", "c", (0, 0, 0, 0), HERE),)),
    (-1, (0, 0, 0, 1, 0, 0), (("mark",),)),
)
X, Y, TO, HIGH = ("x", 0), ("y", 0), ("t", 0), ("u", 0)


class ModelTest(unittest.TestCase):
    def done(self, row, x, y, mark):
        machine = Model(4)
        machine.cells = {X: x, Y: y}
        machine.mark = mark
        machine.do(row)
        return machine.word(TO), machine.mark

    def test_rows(self):
        for row, x, y, mark, wanted in [
            (("set", TO, 1), 0, 0, 1, (1, 1)),
            (("move", TO, X), 9, 0, 1, (9, 1)),
            (("bare", TO, X), 9, 0, 1, (6, 1)),
            (("sum", TO, X, Y), 9, 6, 0, (15, 0)),
            (("sum", TO, X, Y), 9, 6, 1, (0, 1)),
            (("less", TO, X, Y), 9, 9, 0, (0, 0)),
            (("less", TO, X, Y), 9, 9, 1, (15, 1)),
            (("both", TO, X, Y), 12, 10, 1, (8, 1)),
            (("any", TO, X, Y), 12, 10, 1, (14, 1)),
            (("odd", TO, X, Y), 12, 10, 1, (6, 1)),
            (("twice", TO, X), 9, 0, 1, (3, 1)),
            (("twice", TO, X), 7, 0, 1, (15, 0)),
            (("half", TO, X), 9, 0, 0, (4, 1)),
            (("half", TO, X), 8, 0, 1, (12, 0)),
            (("times", TO, HIGH, X, Y), 15, 14, 1, (2, 1)),
            (("times", HIGH, TO, X, Y), 15, 14, 1, (13, 1)),
            (("mark", 0), 0, 0, 1, (0, 0)),
            (("ask", X), 8, 0, 0, (0, 1)),
            (("ask", X), 0, 0, 1, (0, 0)),
        ]:
            self.assertTrue(is_done_row(row))
            self.assertEqual(self.done(row, x, y, mark), wanted, row)

    def test_no_rows(self):
        for thing in [
            (), ("set", TO, 2), ("set", TO, True), ["mark", 0], ("mark", 0, 0), ("move", TO), ("move", ("T", 0), X),
            ("move", ("t", 100), X), ("move", ("t", -1), X), ("times", TO, TO, X, Y), ("odds", TO, X, Y), None,
        ]:
            self.assertFalse(is_done_row(thing), thing)

    def test_unrolled(self):
        inner = ("rounds", (1, 0, 0), (), (("row", ("ask", ("q", (1, 10, 5, 2)))),))
        outer = ("rounds", (0, 1, 0), (), (inner,))
        self.assertTrue(is_telling((outer,)))
        self.assertEqual(steps((outer,), 4, 2), [
            ("ask", (), 0, 0), ("round",),
            ("ask", (), 0, 0), ("round",), ("row", ("ask", ("q", 5))), ("ask", (), 0, 1),
            ("ask", (), 1, 0), ("round",),
            ("ask", (), 1, 0), ("round",), ("row", ("ask", ("q", 15))), ("ask", (), 1, 1),
            ("ask", (), 2, 0),
        ])
        self.assertEqual(steps((("rounds", (-9, 0, 0), (), ()),), 4, 2), [("ask", (), 0, 0)])
        self.assertFalse(is_telling((("rounds", (0, 1, 0), (), (outer,)),)))
        self.assertFalse(is_telling((("row", ("ask", ("q", 0))),)))
        self.assertFalse(is_telling((("row", ("ask", ("q", (201, 0, 0, 0)))),)))

    def test_sentences(self):
        self.assertTrue(is_sentence(SUM_SENTENCE))
        self.assertFalse(is_sentence(SUM_SENTENCE * 6))
        self.assertFalse(is_sentence(((True, (0,) * 6, ()),)))
        self.assertFalse(is_sentence(((1, (0,) * 6, (("mark",),) * 3),)))
        machine = Model(4)
        machine.cells = {("a", 0): 9, ("b", 0): 9, ("c", 0): 2}
        self.assertFalse(holds(SUM_SENTENCE, 2, 1, 0, machine))
        machine.mark = 1
        self.assertTrue(holds(SUM_SENTENCE, 2, 1, 0, machine))
        self.assertFalse(holds(((0, (-1, 0, 0, 0, 0, 0), ()),), 2, 1, 0, machine))
        self.assertFalse(holds(((0, (0,) * 6, (("slice", "a", (-1, 0, 0, 0), (0,) * 4),)),), 2, 1, 0, machine))

    def test_reckoned(self):
        wanted = told([(1, 0, [("a", 0, 1)]), (1, 0, [("b", 0, 1)]), (-1, 0, [("c", 0, 1)]), (-1, 4, [("mark",)])])
        self.assertEqual(len(wanted), 4)
        self.assertEqual(reckoned(SUM_SENTENCE, 4, 2, 1), wanted)
        self.assertNotEqual(reckoned(SUM_SENTENCE, 4, 2, 2), wanted)
        self.assertEqual(reckoned(SUM_SENTENCE, 4, 2, 0), {(0, (("mark",),)): -1})
