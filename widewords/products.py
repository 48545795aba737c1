"""The telling of the product of two numbers."""

from widewords.parts import EACH_WORD, MARKS, NIL
from widewords.parts import answer_marks, asked_words, kept_mark, lowest, rounds, rows, term, word

LOW = ("l", (0, 0, 0, 0))
HIGH = ("h", (0, 0, 0, 0))
# What goes over from one word of the answer to the next.
OVER = ("o", (0, 0, 0, 0))


def product_telling():
    """The telling of ("product",)."""
    unfit = asked_words("c", 1, EACH_WORD) + rows([kept_mark(MARKS[1])])
    return multiplied() + unfit + answer_marks(0, 2)


def multiplied():
    """Parts that add to the answer, for each word of b, x times that word, from its place on."""
    sentence = (
        term(1, (lowest("c", i=1, m=1),)),
        term(-1, (lowest("a", m=1), lowest("b", i=1))),
    )
    begun = rows([("mark", 0), ("set", OVER, 0)])
    ended = rows([("move", word("c", i=1, m=1), OVER)])
    return rounds(EACH_WORD, sentence, begun + by_one_word() + ended)


def by_one_word():
    """Parts that go through the words of a with one word of b."""
    here = word("c", i=1, j=1)
    this_word = ("slice", "b", (0, 1, 0, 0), (1, 1, 0, 0))
    sentence = (
        term(1, (lowest("c", i=1, m=1),)),
        term(1, (lowest("o", 1),), p=1, q=1),
        term(-1, (lowest("a", m=1), lowest("b", i=1))),
        term(-1, (lowest("a", j=1), this_word), p=1),
    )
    # A product of two words and two words more are below W times W, so neither row that makes HIGH or OVER carries,
    # and the mark is 0 ahead of each round.
    return rounds(EACH_WORD, sentence, rows([
        ("times", LOW, HIGH, word("a", j=1), word("b", i=1)),
        ("sum", LOW, LOW, OVER),
        ("sum", HIGH, HIGH, NIL),
        ("sum", here, here, LOW),
        ("sum", OVER, HIGH, NIL),
    ]))
