"""The tellings of left, right, down and roll: a number goes by one place, s times."""

from widewords.parts import EACH_WORD, MARKS, SPARE
from widewords.parts import answer_marks, doubled, kept_mark, last_word, moved, rounds, rows, word


def left_telling(s):
    """The telling of ("left", s)."""
    return shifted(s, ("mark", 0), doubled("c", EACH_WORD)) + left_behind() + answer_marks(0, 1)


def right_telling(s):
    """The telling of ("right", s)."""
    return shifted(s, ("mark", 0), halved()) + left_behind() + answer_marks(0, 1)


def down_telling(s):
    """The telling of ("down", s)."""
    return shifted(s, highest_two(), halved()) + left_behind() + answer_marks(0, 1)


def roll_telling(s):
    """The telling of ("roll", s)."""
    return shifted(s, highest_two(), doubled("c", EACH_WORD)) + answer_marks(0, 1)


def shifted(s, ahead, by_one):
    """Parts that bring x to c and go by one place there, s times; the row ahead makes the mark that comes in."""
    return moved("c", "a") + rounds((s, 0, 0), (), rows([ahead]) + by_one)


def halved():
    """Parts that bring the words of c one place down, the mark coming in above."""
    here = word("c", -1, j=-1, m=1)
    return rounds(EACH_WORD, (), rows([("half", here, here)]))


def highest_two():
    """The row that makes the mark the highest two of c."""
    return ("twice", SPARE, last_word("c"))


def left_behind():
    """Parts that leave the place that went out last: it is the mark, which is still 0 where nothing has gone."""
    return rows([kept_mark(MARKS[0])])
