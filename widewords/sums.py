"""The tellings of sum, difference, turned, compare, and of what goes two by two."""

from widewords.parts import EACH_WORD, MARKS, NIL, SPARE, SEEN
from widewords.parts import answer_marks, kept_mark, last_word, lowest, rounds, rows, term, word


def sum_telling():
    """The telling of ("sum",)."""
    added = ("sum", word("c", i=1), word("a", i=1), word("b", i=1))
    sentence = (
        term(1, (lowest("a", i=1),)),
        term(1, (lowest("b", i=1),)),
        term(-1, (lowest("c", i=1),)),
        term(-1, (("mark",),), p=1),
    )
    lone = lone_sign(last_word("c"), last_word("a"), last_word("b"))
    return carried(added, sentence) + lone + answer_marks(0, 1)


def difference_telling():
    """The telling of ("difference",)."""
    taken = ("less", word("c", i=1), word("a", i=1), word("b", i=1))
    sentence = (
        term(1, (lowest("a", i=1),)),
        term(-1, (lowest("b", i=1),)),
        term(-1, (lowest("c", i=1),)),
        term(1, (("mark",),), p=1),
    )
    lone = lone_sign(last_word("a"), last_word("b"), last_word("c"))
    return carried(taken, sentence) + lone + answer_marks(0, 1)


def turned_telling():
    """The telling of ("turned",)."""
    taken = ("less", word("c", i=1), NIL, word("a", i=1))
    sentence = (
        term(1, (lowest("a", i=1),)),
        term(1, (lowest("c", i=1),)),
        term(-1, (("mark",),), p=1),
    )
    # x is taken away from 0, so the sign of NIL stands for that of the first number.
    lone = lone_sign(NIL, last_word("a"), last_word("c"))
    return carried(taken, sentence) + lone + answer_marks(0, 1)


def compare_telling():
    """The telling of ("compare",)."""
    # x' is below y' where either the sign of x - y is 1 or x' - y' doesn't fit, not both.
    below = [("odd", MARKS[1], MARKS[1], MARKS[3]), ("set", MARKS[3], 0)]
    return difference_telling() + rows(below)


def pairwise_telling(name):
    """The telling of ("both",), ("any",) or ("odd",): each is called like the row that does it."""
    paired = (name, word("c", i=1), word("a", i=1), word("b", i=1))
    return rounds(EACH_WORD, (), rows([paired])) + answer_marks(0, 1)


def bare_telling():
    """The telling of ("bare",)."""
    sentence = (
        term(1, (lowest("a", i=1),)),
        term(1, (lowest("c", i=1),)),
        term(-1, (), p=1),
        term(1, ()),
    )
    bared = ("bare", word("c", i=1), word("a", i=1))
    return rounds(EACH_WORD, sentence, rows([bared])) + answer_marks(0, 1)


def carried(row, sentence):
    """Parts that do a row for each word, the mark going from word to word, and leave what it is at last."""
    return rows([("mark", 0)]) + rounds(EACH_WORD, sentence, rows([row])) + rows([kept_mark(MARKS[0])])


def lone_sign(lone, one, other):
    """Parts that leave whether the highest two of lone is unlike those of both others."""
    return rows([
        ("odd", SPARE, lone, one),
        ("odd", SEEN, lone, other),
        ("both", SPARE, SPARE, SEEN),
        ("twice", SPARE, SPARE),
        kept_mark(MARKS[1]),
    ])
