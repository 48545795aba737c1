"""The desk: it keeps numbers by names, and is told lines."""

from widewords.bounds import LEADING, refuse_line
from widewords.carries import carries
from widewords.deeds import deed_rows
from widewords.errors import NoUndo
from widewords.lines import asked_names, read_line
from widewords.numbers import plain, signed, signed_words, words_of
from widewords.texts import shown
from widewords.worths import comes

QUESTIONS = ("show", "worth", "sworth", "compare", "rows", "carries", "names")
RESTS = {"rest": "quotient", "srest": "signed quotient"}
DONE = "done"
NONE = "none"


class Desk:
    """A desk; its names stand for nothing at the beginning."""

    def __init__(self):
        # (w, number) by names. A deed makes another dict, so that those ahead of it stay as they were.
        self.numbers = {}
        self.earlier = []
        self.later = []

    def tell(self, line):
        """The answer to a line; what is refused changes nothing."""
        told = read_line(line)
        refuse_line(told, self.numbers)
        if told[0] in QUESTIONS:
            return answered(told, self.numbers)
        if told[0] == "undo":
            return self.undo()
        if told[0] == "redo":
            return self.redo()
        if told[0] == "drop":
            return self.drop(told[1])
        w, number, answer = given(told, self.numbers)
        after = dict(self.numbers)
        after[told[1]] = (w, number)
        self.keep(after)
        return answer

    def drop(self, name):
        after = dict(self.numbers)
        del after[name]
        self.keep(after)
        return DONE

    def keep(self, after):
        """Lets the names stand for what they stand for behind a deed."""
        self.earlier.append(self.numbers)
        self.later = []
        self.numbers = after

    def undo(self):
        if len(self.earlier) == 0:
            raise NoUndo("there is no deed to undo")
        self.later.append(self.numbers)
        self.numbers = self.earlier.pop()
        return DONE

    def redo(self):
        if len(self.later) == 0:
            raise NoUndo("there is no deed to do again")
        self.earlier.append(self.numbers)
        self.numbers = self.later.pop()
        return DONE


def given(told, numbers):
    """(w, number, answer) of a line that lets a name stand for a number."""
    if told[0] == "plain":
        return written(told[2], words_of(told[4], told[2], told[3]))
    if told[0] == "signed":
        return written(told[2], signed_words(told[4], told[2], told[3]))
    asked = [numbers[name] for name in asked_names(told)]
    w, number = asked[0]
    y = plain(asked[1][1], w) if len(asked) > 1 else 0
    answer, rest, marks = comes(deed_of(told), w, len(number), plain(number, w), y)
    return marked(w, rest if told[0] in RESTS else answer, marks)


def deed_of(told):
    """The deed that a line of let, of a rest, or that leads wider or narrower asks."""
    if told[0] == "let":
        return told[2]
    if told[0] in RESTS:
        return (RESTS[told[0]],)
    way, more = LEADING[told[0]]
    return ("led", way, way, more * told[3])


def written(w, number):
    return w, number, shown(number, w)


def marked(w, number, marks):
    figures = "".join([str(mark) for mark in marks])
    return w, number, f"{shown(number, w)} {figures}"


def answered(told, numbers):
    """The answer to a question."""
    if told[0] == "names":
        return listed(sorted(numbers))
    if told[0] == "rows":
        return str(len(deed_rows(told[1], told[2], told[3])))
    asked = [numbers[name] for name in asked_names(told)]
    w, number = asked[0]
    if told[0] == "show":
        return shown(number, w)
    if told[0] == "worth":
        return str(plain(number, w))
    if told[0] == "sworth":
        return str(signed(number, w))
    other = asked[1][1]
    if told[0] == "carries":
        pairs = carries(plain(number, w), plain(other, w), w * len(number))
        return listed([f"{made_at}-{taken_at}" for made_at, taken_at in pairs])
    return f"{order(plain(number, w), plain(other, w))} {order(signed(number, w), signed(other, w))}"


def listed(texts):
    return " ".join(texts) if len(texts) > 0 else NONE


def order(x, y):
    if x == y:
        return "alike"
    return "less" if x < y else "more"
