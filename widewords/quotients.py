"""The telling of the quotient of two numbers and of its rest."""

from widewords.parts import EACH_WORD, MARKS, NIL, SPARE
from widewords.parts import answer_marks, asked_words, kept_contrary, lowest, moved, rounds, rows, term, word

EACH_PLACE = (0, 0, 1)
# W - 1 where y was above the rest, so that it is to be put back, else 0.
BACK = ("f", (0, 0, 0, 0))


def quotient_telling():
    """The telling of ("quotient",)."""
    by_nought = asked_words("b", 0, EACH_WORD) + rows(kept_contrary(MARKS[0]))
    return moved("e", "a") + divided() + by_nought + answer_marks(0, 1)


def divided():
    """Parts that go through the places of x, the highest first: c has the quotient so far, d the rest so far, e the
    places that are still to come, brought up to its highest ones."""
    sentence = (
        term(1, (lowest("a", m=1),), i=1),
        term(-1, (lowest("c", m=1), lowest("b", m=1)), r=1),
        term(-1, (lowest("d", 1, m=1),), r=1),
        term(-1, (lowest("e", m=1),)),
    )
    return rounds(EACH_PLACE, sentence, next_place() + less_divisor() + put_back() + next_figure())


def next_place():
    """Parts that double the rest and put the next place of x to it."""
    # The rest has n + 1 words, which hold it when it is doubled, so the mark is 0 behind these parts.
    return rows([("mark", 0)]) + doubled("e", EACH_WORD) + doubled("d", (1, 1, 0))


def doubled(letter, count):
    """Parts that bring a letter's words one place up, the mark coming in below."""
    return rounds(count, (), rows([("twice", word(letter, j=1), word(letter, j=1))]))


def less_divisor():
    """Parts that take y away from the rest; the mark is 1 where y was above it."""
    taken = ("less", word("d", j=1), word("d", j=1), word("b", j=1))
    top = word("d", m=1)
    return rounds(EACH_WORD, (), rows([taken])) + rows([("less", top, top, NIL)])


def put_back():
    """Parts that add y to the rest again where it was above it, else 0: rows can't be left out."""
    added = [("both", SPARE, word("b", j=1), BACK), ("sum", word("d", j=1), word("d", j=1), SPARE)]
    top = word("d", m=1)
    begun = rows([("less", BACK, NIL, NIL), ("mark", 0)])
    return begun + rounds(EACH_WORD, (), rows(added)) + rows([("sum", top, top, NIL)])


def next_figure():
    """Parts that double the quotient and put 1 to it where y stayed away from the rest."""
    return rows([("bare", BACK, BACK), ("ask", BACK)]) + doubled("c", EACH_WORD)
