"""Tellings: what one is, and the rows that come when it is unrolled."""

from widewords.errors import NoTelling
from widewords.rows import is_row, is_told_row
from widewords.sentences import is_sentence, place_of
from widewords.shapes import are_told

MOST_ROWS = 4000
MOST_ROUNDS = 4000
# Rounds, and rounds within these.
MOST_NESTS = 2


class Unrolling:
    """The steps of a telling, for w and n, as far as it has been gone: ("row", row) for each row that comes,
    ("asked", sentence, I, J) where a sentence is to hold. Refused with NoTelling where a step can't be gone."""

    def __init__(self, w, n):
        self.w = w
        self.n = n
        self.steps = []
        self.rows = 0
        self.rounds = 0

    def go_parts(self, parts, gone):
        """Goes parts; gone tells for each rounds part around them how many of its rounds have been gone."""
        for part in parts:
            if part[0] == "row":
                self.add_row(part[1], gone)
            else:
                self.go_rounds(part, gone)

    def go_rounds(self, part, gone):
        count = max(0, self.count_of(part[1]))
        for at in range(count):
            self.add_asked(part[2], gone + (at,))
            self.add_round()
            self.go_parts(part[3], gone + (at,))
        self.add_asked(part[2], gone + (count,))

    def count_of(self, told):
        c, m, t = told
        return c + m * self.n + t * self.w * self.n

    def add_row(self, told, gone):
        i, j = both_gone(gone)
        row = tuple([placed(each, self.n, i, j) for each in told])
        self.rows += 1
        if not is_row(row) or self.rows > MOST_ROWS:
            raise NoTelling("what comes is no row, or one row too many")
        self.steps.append(("row", row))

    def add_round(self):
        self.rounds += 1
        if self.rounds > MOST_ROUNDS:
            raise NoTelling("there are too many rounds")

    def add_asked(self, sentence, gone):
        i, j = both_gone(gone)
        self.steps.append(("asked", sentence, i, j))


def is_telling(thing):
    """Whether a thing is a telling, whatever it is made of."""
    return are_parts(thing, MOST_NESTS)


def unrolled(telling, w, n):
    """The rows of a telling for w and n; refused with NoTelling where it is none, a row that comes is none, or too many
    rows come or rounds are gone."""
    return tuple([step[1] for step in steps_of(telling, w, n) if step[0] == "row"])


def steps_of(telling, w, n):
    """The steps of a telling for w and n, a list; refused as unrolled is."""
    if not is_telling(telling):
        raise NoTelling("this is no telling")
    unrolling = Unrolling(w, n)
    unrolling.go_parts(telling, ())
    return unrolling.steps


def are_parts(thing, nests):
    """Whether a thing is a tuple of parts, in which rounds stand at most so many deep."""
    return isinstance(thing, tuple) and all([is_part(each, nests) for each in thing])


def is_part(thing, nests):
    if not isinstance(thing, tuple) or len(thing) == 0:
        return False
    if thing[0] == "row":
        return len(thing) == 2 and is_told_row(thing[1])
    if thing[0] != "rounds" or len(thing) != 4 or nests == 0:
        return False
    return are_told(thing[1], 3) and is_sentence(thing[2]) and are_parts(thing[3], nests - 1)


def both_gone(gone):
    """I and J; 0 where no such part is being gone."""
    return (gone + (0, 0))[:2]


def placed(thing, n, i, j):
    """A told cell with its place as a number; a name or a figure of a row as it is."""
    if not isinstance(thing, tuple):
        return thing
    return (thing[0], place_of(thing[1], n, i, j))
