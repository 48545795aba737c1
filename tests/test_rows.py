import unittest

from tests.model import is_done_row
from widewords.rows import is_row

A, B, C, D = ("a", 0), ("z", 99), ("m", 3), ("q", 50)
ROWS = [
    ("set", A, 0), ("set", B, 1), ("move", A, B), ("bare", A, B), ("sum", A, B, C), ("less", A, B, C),
    ("both", A, B, C), ("any", A, B, C), ("odd", A, B, C), ("twice", A, B), ("half", A, B), ("times", A, B, C, D),
    ("mark", 0), ("mark", 1), ("ask", A),
]
STRANGE = [
    None, True, False, 0, 1, 2, -1, 99, 100, 10 ** 59, "", "a", "aa", "0", "set", (), [], ("a",), ("a", 0, 0), ["a", 0],
    (("a", 0), 0), ("a", (0, 0, 0, 0)), ("a", True), ("a", "0"), ("a", None), ("a", -1), ("a", 100), ("a", 10 ** 59),
    ("a", -10 ** 59), ("A", 0), ("", 0), ("ab", 0), ("`", 0), ("{", 0), (" ", 0), (0, 0), (None, 0), (("a",), 0),
    (["a"], 0), (True, 0), ("a", [0]), ("a", ()), ((), ()), [[]], ("a", 0), ("z", 99), ("b", 1),
]
LONE = [
    None, True, False, 0, 1, -1, 10 ** 59, "", "a", "mark", "sum", (), [], ((),), ([],), [()], (None,), (True,), (0,),
    ("sum",), ("mark",), ("set",), ("a", 0), ("ask", "a", 0), (["mark"], 0), (("mark", 0),), ("mark", 0, 0),
    ("Mark", 0), ("mark ", 0), ("", 0), ("put", A, 0), ("not", A, B), ("turn",), ("rounds", (1, 0, 0), (), ()),
    ("row", ("mark", 0)), (None, 0), (0, A), (True, A), ((), A), ([], A),
]


def put_in(thing, at, other):
    return thing[:at] + (other,) + thing[at + 1:]


def changed_cells(cell, wrong):
    letter, at = cell
    return [(each, at) for each in wrong["letter"]] + [(letter, each) for each in wrong["at"]]


WRONG = {
    "name": ["", "Sum", "sums", "su", "turn", "row", None, 0, True, (), [], ("sum",), ["sum"]],
    "letter": ["", "aa", "A", "`", "{", " ", "1", 0, True, None, (), ("a",), ["a"]],
    "at": [-1, 100, True, False, "0", "", None, (), [0], (0,), (0, 0, 0, 0), 10 ** 59, -10 ** 59],
    "figure": [-1, 2, True, False, "0", "1", None, (), [0], (0,), A, 10 ** 59],
    "cell": [None, True, 0, "a", "a0", (), [], ("a",), ("a", 0, 0), ["a", 0], [("a", 0)], (0, "a"), (A, 0)],
}


def changed(row):
    """A row changed once, at each place, into what is no row."""
    found = [put_in(row, 0, each) for each in WRONG["name"]]
    found += [list(row), (row,), row + (0,), row + (A,), row[:-1], row[:1], ()]
    for at in range(1, len(row)):
        found.append(row[:at] + row[at + 1:])
        found.append(row[:at] + row[at:at + 1] + row[at:])
        wrong = WRONG["cell"] + changed_cells(row[at], WRONG) if isinstance(row[at], tuple) else WRONG["figure"]
        found += [put_in(row, at, each) for each in wrong]
        if isinstance(row[at], tuple):
            found.append(put_in(row, at, list(row[at])))
    return found


class RowsTest(unittest.TestCase):
    def test_each_kind(self):
        self.assertEqual(len({row[0] for row in ROWS}), 13)
        for row in ROWS:
            self.assertIs(is_row(row), True, row)

    def test_edges_of_cells(self):
        for row in ROWS:
            for at in range(1, len(row)):
                if isinstance(row[at], tuple):
                    for cell in [("a", 1), ("z", 1), ("a", 98), ("k", 99), ("k", 0)]:
                        self.assertIs(is_row(put_in(row, at, cell)), True)

    def test_cells_may_be_alike(self):
        for row in [("sum", A, A, A), ("move", A, A), ("times", A, B, A, B), ("times", A, B, C, C)]:
            self.assertIs(is_row(row), True, row)

    def test_low_and_high_alike(self):
        self.assertIs(is_row(("times", A, A, C, D)), False)
        self.assertIs(is_row(("times", ("k", 7), ("k", 7), ("k", 7), ("k", 7))), False)
        self.assertIs(is_row(("times", ("k", 7), ("k", 8), C, D)), True)
        self.assertIs(is_row(("times", ("k", 7), ("l", 7), C, D)), True)

    def test_changed_once(self):
        for row in ROWS:
            for thing in changed(row):
                self.assertIs(is_row(thing), False, thing)

    def test_strange_things(self):
        for thing in LONE:
            self.assertIs(is_row(thing), False, thing)

    def test_anything_at_any_place(self):
        for row in ROWS:
            for at in range(len(row)):
                for each in STRANGE:
                    thing = put_in(row, at, each)
                    self.assertIs(is_row(thing), is_done_row(thing), thing)

    def test_another_name(self):
        names = sorted({row[0] for row in ROWS})
        for row in ROWS:
            for name in names:
                thing = put_in(row, 0, name)
                self.assertIs(is_row(thing), is_done_row(thing), thing)
