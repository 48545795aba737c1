"""The tellings that lead a number to more or fewer words, read and meant as plain or signed."""

from widewords.parts import MARKS, NIL
from widewords.parts import answer_marks, gathered_unlike, kept_mark, last_word, lowest, moved, rounds, rows
from widewords.parts import sign_filled, term, word

# The words by which x, as it is read, and the answer, as it is meant, would be made wider.
FILL = ("f", (0, 0, 0, 0))
REFILL = ("g", (0, 0, 0, 0))
# Isn't 0 where the answer, as it is meant, has another worth than x, as it is read.
LOST = ("h", (0, 0, 0, 0))


def led_telling(read, meant, e):
    """The telling of ("led", read, meant, e): read and meant are "plain" or "signed"."""
    told = moved("c", "a", min(e, 0)) + filled(FILL, read, last_word("a"))
    if e > 0:
        told += widened(e)
    told += filled(REFILL, meant, word("c", e - 1, m=1)) + rows([("odd", LOST, FILL, REFILL)])
    if e < 0:
        told += dropped(e)
    return told + rows([("ask", LOST), kept_mark(MARKS[1])]) + answer_marks(e, 1)


def filled(to, way, last):
    """Parts that put the word by which a number with that last word is made wider; the mark is 1 where it isn't 0."""
    return rows(sign_filled(to, last) if way == "signed" else [("mark", 0), ("less", to, NIL, NIL)])


def widened(e):
    """Parts that put FILL into the e words behind the n of the answer."""
    # The mark is still 1 where FILL is W - 1: I such words from place n on are 2 ** (w (n + I)) less 2 ** (w n).
    sentence = (
        term(1, (lowest("c", i=1, m=1),)),
        term(-1, (lowest("a", m=1),)),
        term(-1, (("mark",),), p=1, r=1),
        term(1, (("mark",),), r=1),
    )
    return rounds((e, 0, 0), sentence, rows([("move", word("c", i=1, m=1), FILL)]))


def dropped(e):
    """Parts that look whether the words of x that go are those by which the answer would be made wider."""
    return gathered_unlike(LOST, word("a", e, i=1, m=1), REFILL, (-e, 0, 0))
