"""The telling of the quotient of two numbers and of its rest."""

from widewords.parts import EACH_WORD, MARKS, NIL, SPARE
from widewords.parts import answer_marks, asked_words, doubled, kept_contrary, lowest, moved, rounds, rows, term, word

EACH_PLACE = (0, 0, 1)
# W - 1 where y was above the rest, so that it is to be put back, else 0.
BACK = ("f", (0, 0, 0, 0))


def quotient_telling():
    """The telling of ("quotient",)."""
    return divided("a", "b", "c", "d") + by_nought() + answer_marks(0, 1)


def by_nought():
    """Parts that leave whether y is nought."""
    return asked_words("b", 0, EACH_WORD) + rows(kept_contrary(MARKS[0]))


def divided(x, y, answer, rest):
    """Parts that go through the places of the number of a letter, the highest first: the letter answer has the quotient
    so far, rest the rest so far, e the places that are still to come, brought up to its highest ones."""
    sentence = (
        term(1, (lowest(x, m=1),), i=1),
        term(-1, (lowest(answer, m=1), lowest(y, m=1)), r=1),
        term(-1, (lowest(rest, 1, m=1),), r=1),
        term(-1, (lowest("e", m=1),)),
    )
    one_place = next_place(rest) + less_divisor(rest, y) + put_back(rest, y) + next_figure(answer)
    return moved("e", x) + rounds(EACH_PLACE, sentence, one_place)


def next_place(rest):
    """Parts that double the rest and put the next place of x to it."""
    # The rest has n + 1 words, which hold it when it is doubled, so the mark is 0 behind these parts.
    return rows([("mark", 0)]) + doubled("e", EACH_WORD) + doubled(rest, (1, 1, 0))


def less_divisor(rest, y):
    """Parts that take y away from the rest; the mark is 1 where y was above it."""
    taken = ("less", word(rest, j=1), word(rest, j=1), word(y, j=1))
    top = word(rest, m=1)
    return rounds(EACH_WORD, (), rows([taken])) + rows([("less", top, top, NIL)])


def put_back(rest, y):
    """Parts that add y to the rest again where it was above it, else 0: rows can't be left out."""
    added = [("both", SPARE, word(y, j=1), BACK), ("sum", word(rest, j=1), word(rest, j=1), SPARE)]
    top = word(rest, m=1)
    begun = rows([("less", BACK, NIL, NIL), ("mark", 0)])
    return begun + rounds(EACH_WORD, (), rows(added)) + rows([("sum", top, top, NIL)])


def next_figure(answer):
    """Parts that double the quotient and put 1 to it where y stayed away from the rest."""
    return rows([("bare", BACK, BACK), ("ask", BACK)]) + doubled(answer, EACH_WORD)
