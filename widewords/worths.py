"""What comes of a deed, reckoned by whole numbers."""

from widewords.deeds import QUOTIENTS, SHIFTS, answer_words, is_deed, is_paired, rest_words
from widewords.errors import NoDeed, NoFit, NoQuotient
from widewords.numbers import lowest_words, sign_of, words_of


def comes(deed, w, n, x, y):
    """(answer, rest, marks) of a deed of the plain worths x and y, y being 0 for a deed of one number."""
    refuse_deed(deed, w, n, x, y)
    if deed[0] == "compare":
        return (), (), compared(x, y, w * n)
    worth, first, second = reckoned(deed, w, n, x, y)
    answer = lowest_words(worth, w, answer_words(deed, n))
    # With signs the rest is the same one: plain and signed worths differ by what the lowest n words don't tell.
    rest = lowest_words(x - y * worth, w, rest_words(deed, n))
    return answer, rest, (first, second, 0 if any(answer) else 1, sign_of(answer, w))


def refuse_deed(deed, w, n, x, y):
    """Refuses what is no deed, worths that don't fit, and a quotient by nought."""
    if not is_deed(deed):
        raise NoDeed("this is no deed")
    words_of(x, w, n)
    words_of(y, w, n)
    if y != 0 and not is_paired(deed):
        raise NoFit(f"{deed[0]} is a deed of one number")
    if y == 0 and deed[0] in QUOTIENTS:
        raise NoQuotient("there is no quotient by nought")


def reckoned(deed, w, n, x, y):
    """(worth, first mark, second mark): the answer is the lowest words of that worth."""
    if deed[0] == "led":
        return led(deed, w, n, x)
    reckon = RECKONED[deed[0]]
    return reckon(x, deed[1] if deed[0] in SHIFTS else y, w * n)


def signed_worth(x, k):
    """The signed worth of a number of k places and the plain worth x."""
    return x - ((x >> (k - 1)) << k)


def unfit(worth, k):
    """1 where a worth is no signed one of k places, else 0."""
    half = 1 << (k - 1)
    return 0 if -half <= worth < half else 1


def compared(x, y, k):
    """The marks of compare."""
    return (int(x < y), int(signed_worth(x, k) < signed_worth(y, k)), int(x == y), 0)


def summed(x, y, k):
    return x + y, (x + y) >> k, unfit(signed_worth(x, k) + signed_worth(y, k), k)


def taken_away(x, y, k):
    return x - y, int(x < y), unfit(signed_worth(x, k) - signed_worth(y, k), k)


def turned(x, y, k):
    return taken_away(0, x, k)


def in_both(x, y, k):
    return x & y, 0, 0


def in_any(x, y, k):
    return x | y, 0, 0


def in_one(x, y, k):
    return x ^ y, 0, 0


def bared(x, y, k):
    return -1 - x, 0, 0


def moved_left(x, s, k):
    return x << s, (x << s) >> k & 1, 0


def moved_right(x, s, k):
    # Twice x has place s - 1 of x at place s, and 0 at place 0, so s 0 is none of its own.
    return x >> s, (2 * x) >> s & 1, 0


def moved_down(x, s, k):
    return moved_right(signed_worth(x, k), s, k)


def rolled(x, s, k):
    places = s % k
    return (x << places) | (x >> (k - places)), 0, 0


def multiplied(x, y, k):
    return x * y, 0, 0 if (x * y) >> k == 0 else 1


def signed_multiplied(x, y, k):
    worth = signed_worth(x, k) * signed_worth(y, k)
    return worth, 0, unfit(worth, k)


def divided(x, y, k):
    return x // y, 0, 0


def signed_divided(x, y, k):
    above, below = signed_worth(x, k), signed_worth(y, k)
    worth = abs(above) // abs(below)
    if (above < 0) != (below < 0):
        worth = -worth
    return worth, 0, unfit(worth, k)


def led(deed, w, n, x):
    worth = signed_worth(x, w * n) if deed[1] == "signed" else x
    places = w * answer_words(deed, n)
    if deed[2] == "signed":
        return worth, 0, unfit(worth, places)
    return worth, 0, 0 if worth >> places == 0 else 1


# Each is handed x, then y or the s of a shift, and the number of places, and tells what reckoned tells.
RECKONED = {
    "sum": summed,
    "difference": taken_away,
    "turned": turned,
    "both": in_both,
    "any": in_any,
    "odd": in_one,
    "bare": bared,
    "left": moved_left,
    "right": moved_right,
    "down": moved_down,
    "roll": rolled,
    "product": multiplied,
    "signed product": signed_multiplied,
    "quotient": divided,
    "signed quotient": signed_divided,
}
