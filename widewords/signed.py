"""The tellings of the product and the quotient of two numbers with signs."""

from widewords.parts import EACH_WORD, MARKS, NIL, SPARE
from widewords.parts import answer_marks, gathered_unlike, kept_mark, last_word, lowest, rounds, rows, sign_filled, term
from widewords.parts import word
from widewords.products import HIGH, LOW, multiplied
from widewords.quotients import by_nought, divided

# The signs of x, of y and of their quotient, and what was borrowed where y was taken away, each 0 or 1.
SIGN_X = ("i", (0, 0, 0, 0))
SIGN_Y = ("j", (0, 0, 0, 0))
SIGN_OF_BOTH = ("k", (0, 0, 0, 0))
BORROWED = ("p", (0, 0, 0, 0))
# W - 1 or 0, as a sign is.
FILL = ("g", (0, 0, 0, 0))
# Isn't 0 where the upper words of a product aren't those by which the lower ones would be made wider.
LOST = ("w", (0, 0, 0, 0))


def signed_product_telling():
    """The telling of ("signed product",)."""
    signs = kept_sign(SIGN_X, "a") + kept_sign(SIGN_Y, "b")
    return signs + multiplied() + less_for_x() + less_for_y() + unfit_product() + answer_marks(0, 2)


def signed_quotient_telling():
    """The telling of ("signed quotient",): the quotient of the worths without signs, in u and v, is q, its rest r."""
    signs = kept_sign(SIGN_X, "a") + kept_sign(SIGN_Y, "b") + rows([("odd", SIGN_OF_BOTH, SIGN_X, SIGN_Y)])
    begun = turned_where(SIGN_X, "u", "a") + turned_where(SIGN_Y, "v", "b")
    ended = turned_where(SIGN_OF_BOTH, "c", "q") + turned_where(SIGN_X, "d", "r")
    return signs + begun + divided("u", "v", "q", "r") + ended + by_nought() + unfit_quotient() + answer_marks(0, 1)


def kept_sign(to, letter):
    """Parts that put the sign of a letter's number into a cell; the mark is 0 behind them."""
    return rows([("twice", SPARE, last_word(letter)), kept_mark(to)])


def worth_of(cell):
    """The slice of a cell that stands at place 0."""
    return lowest(cell[0], 1)


def less_for_x():
    """Parts that take y away from the upper words of the product where the sign of x is 1."""
    return less_where(SIGN_X, "b", product_terms() + less_terms(SIGN_X, "b")) + rows([kept_mark(BORROWED)])


def less_for_y():
    """Parts that take x away from the upper words of the product where the sign of y is 1."""
    before = (
        term(1, (worth_of(SIGN_X), lowest("b", m=1)), r=1),
        term(-1, (worth_of(BORROWED),), r=2),
    )
    return less_where(SIGN_Y, "a", product_terms() + before + less_terms(SIGN_Y, "a"))


def product_terms():
    """The terms of the answer less x y."""
    return (
        term(1, (lowest("c", m=2),)),
        term(-1, (lowest("a", m=1), lowest("b", m=1))),
    )


def less_terms(sign, letter):
    """The terms of the words that have been taken away, and of what is borrowed."""
    return (
        term(1, (worth_of(sign), lowest(letter, i=1)), r=1),
        term(-1, (("mark",),), p=1, r=1),
    )


def less_where(sign, letter, sentence):
    """Parts that take a letter's n words, times a sign, away from the upper n words of c; the mark is 0 ahead."""
    upper = word("c", i=1, m=1)
    return rounds(EACH_WORD, sentence, rows([
        ("times", LOW, HIGH, word(letter, i=1), sign),
        ("less", upper, upper, LOW),
    ]))


def unfit_product():
    """Parts that leave whether the lower n words, led wider, would be another number than the answer."""
    looked = gathered_unlike(LOST, word("c", i=1, m=1), FILL, EACH_WORD)
    return rows(sign_filled(FILL, last_word("c"))) + looked + rows([("ask", LOST), kept_mark(MARKS[1])])


def turned_where(sign, to, source):
    """Parts that bring n words of one letter to another one, turned where a sign is 1."""
    # A number that is bared and has 1 put to it is turned: the sign comes in as the first carry.
    sentence = (
        term(1, (lowest(to, i=1),)),
        term(1, (("mark",),), p=1),
        term(-1, (lowest(source, i=1),)),
        term(2, (worth_of(sign), lowest(source, i=1))),
        term(-1, (worth_of(sign),), p=1),
    )
    return rows([("ask", sign), ("less", FILL, NIL, NIL)]) + rounds(EACH_WORD, sentence, rows([
        ("odd", SPARE, word(source, i=1), FILL),
        ("sum", word(to, i=1), SPARE, NIL),
    ]))


def unfit_quotient():
    """Parts that leave whether q has its highest two, which only a quotient below 0 may have."""
    return rows([
        ("twice", SPARE, last_word("q")),
        kept_mark(MARKS[1]),
        ("any", MARKS[1], MARKS[1], SIGN_OF_BOTH),
        ("odd", MARKS[1], MARKS[1], SIGN_OF_BOTH),
    ])
