"""Sentences: what one is, and whether it holds."""

from widewords.shapes import are_told, is_letter, is_whole

MOST_TERMS = 20
MOST_THINGS = 2
# The least whole number of more than forty figures.
FACTOR_LIMIT = 10 ** 40
MOST_EXPONENT = 2000
MOST_PLACE = 100


class Moment:
    """What a sentence is asked of: w, n, I and J, the words by their cells, and the mark."""

    def __init__(self, w, n, i, j, words, marked):
        self.w = w
        self.n = n
        self.i = i
        self.j = j
        self.words = words
        self.marked = marked


def is_sentence(thing):
    """Whether a thing is a sentence, whatever it is made of."""
    return isinstance(thing, tuple) and len(thing) <= MOST_TERMS and all([is_term(each) for each in thing])


def holds(sentence, w, n, i, j, cells, mark):
    """Whether a sentence holds; cells are tuples (cell, word), those that aren't named hold 0."""
    return holds_at(sentence, Moment(w, n, i, j, dict(cells), mark))


def holds_at(sentence, moment):
    """Whether a sentence holds at a moment."""
    worths = [term_worth(term, moment) for term in sentence]
    return None not in worths and sum(worths) == 0


def place_of(told, n, i, j):
    """The place that (c, i, j, m) tells."""
    return told[0] + told[1] * i + told[2] * j + told[3] * n


def is_term(thing):
    if not isinstance(thing, tuple) or len(thing) != 3:
        return False
    f, exponent, things = thing
    return is_whole(f, 1 - FACTOR_LIMIT, FACTOR_LIMIT - 1) and are_told(exponent, 6) and are_things(things)


def are_things(thing):
    return isinstance(thing, tuple) and len(thing) <= MOST_THINGS and all([is_thing(each) for each in thing])


def is_thing(thing):
    """Whether a thing is a slice or the mark."""
    if not isinstance(thing, tuple) or len(thing) == 0:
        return False
    if thing[0] == "mark":
        return len(thing) == 1
    if thing[0] != "slice" or len(thing) != 4 or not is_letter(thing[1]):
        return False
    return are_told(thing[2], 4) and are_told(thing[3], 4)


def term_worth(term, moment):
    """What a term comes to; None where an exponent or a place is out of bounds."""
    f, told, things = term
    exponent = exponent_of(told, moment)
    worths = [thing_worth(thing, moment) for thing in things]
    # A place out of bounds counts also where the term would come to 0.
    if not 0 <= exponent <= MOST_EXPONENT or None in worths:
        return None
    worth = f << exponent
    for each in worths:
        worth *= each
    return worth


def exponent_of(told, moment):
    c, i, j, p, q, r = told
    words = p * moment.i + q * moment.j + r * moment.n
    return c + i * moment.i + j * moment.j + moment.w * words


def thing_worth(thing, moment):
    """What a slice or the mark is worth; None where a place is out of bounds."""
    if thing[0] == "mark":
        return moment.marked
    start = place_of(thing[2], moment.n, moment.i, moment.j)
    end = place_of(thing[3], moment.n, moment.i, moment.j)
    if not 0 <= start <= MOST_PLACE or not 0 <= end <= MOST_PLACE:
        return None
    return sum([moment.words.get((thing[1], at), 0) << (moment.w * (at - start)) for at in range(start, end)])
