"""The lines of the desk, by their words: what each kind of line is made of, names and figures among it."""

from widewords.deeds import SHIFTS, is_paired
from widewords.errors import NoLine

MOST_LETTERS = 8
MOST_FIGURES = 60

# What stands behind the first word of a line; the lines that bear a deed's word, let and rows, are read on their own.
FORMS = {
    "plain": ("name", "whole", "whole", "whole"),
    "signed": ("name", "whole", "whole", "whole"),
    "rest": ("name", "name", "name"),
    "srest": ("name", "name", "name"),
    "wider": ("name", "name", "whole"),
    "swider": ("name", "name", "whole"),
    "narrower": ("name", "name", "whole"),
    "snarrower": ("name", "name", "whole"),
    "drop": ("name",),
    "undo": (),
    "redo": (),
    "show": ("name",),
    "worth": ("name",),
    "sworth": ("name",),
    "compare": ("name", "name"),
    "carries": ("name", "name"),
    "names": (),
}

# The lines in which the first name is given anew, so that only the names behind it are asked.
GIVING = ("plain", "signed", "let", "rest", "srest", "wider", "swider", "narrower", "snarrower")

# The deeds by the words that stand for them in a line; behind those of the shifts stands S.
DEED_WORDS = {
    "sum": "sum",
    "difference": "difference",
    "turned": "turned",
    "both": "both",
    "any": "any",
    "odd": "odd",
    "bare": "bare",
    "product": "product",
    "sproduct": "signed product",
    "quotient": "quotient",
    "squotient": "signed quotient",
    "left": "left",
    "right": "right",
    "down": "down",
    "roll": "roll",
}


def read_line(line):
    """A line as a tuple: its first word, and what stands behind it, names as texts, figures as whole numbers of any
    size, a deed's words as one tuple. Refused with NoLine where it is no line by its words."""
    first, *behind = line.split(" ")
    if first == "let":
        return read_let(behind)
    if first == "rows":
        return read_rows(behind)
    if first not in FORMS:
        raise NoLine(f"no line begins with {first}")
    return (first,) + read_words(FORMS[first], behind)


def asked_names(told):
    """The names in what read_line told that are to stand for something."""
    names = tuple([thing for thing in told[1:] if isinstance(thing, str)])
    return names[1:] if told[0] in GIVING else names


def read_let(words):
    """("let", NAME, deed, ONE) or ("let", NAME, deed, ONE, OTHER)."""
    deed, behind = read_deed(words[1:])
    asked = ("name", "name") if is_paired(deed) else ("name",)
    return ("let",) + read_words(("name",), words[:1]) + (deed,) + read_words(asked, behind)


def read_rows(words):
    """("rows", deed, WIDTH, MANY)."""
    deed, behind = read_deed(words)
    return ("rows", deed) + read_words(("whole", "whole"), behind)


def read_deed(words):
    """The deed that words begin with, its S of any size, and the words behind it."""
    if len(words) == 0 or words[0] not in DEED_WORDS:
        raise NoLine("a deed's word is missing")
    name = DEED_WORDS[words[0]]
    if name in SHIFTS:
        return (name,) + read_words(("whole",), words[1:2]), words[2:]
    return (name,), words[1:]


def read_words(form, words):
    """What words stand for, a tuple; form tells what each of them is to be."""
    if len(words) != len(form):
        raise NoLine("there are too many words or too few")
    return tuple([read_word(kind, word) for kind, word in zip(form, words)])


def read_word(kind, word):
    if kind == "name":
        if not is_name(word):
            raise NoLine(f"{word} is no name")
        return word
    if not is_figures(word):
        raise NoLine(f"{word} is no whole number")
    return int(word)


def is_name(word):
    """Whether a text is a name: one to eight small letters."""
    return 1 <= len(word) <= MOST_LETTERS and all(["a" <= sign <= "z" for sign in word])


def is_figures(word):
    """Whether a text is a whole number written by its figures."""
    if word == "0":
        return True
    figures = word.removeprefix("-")
    if not 1 <= len(figures) <= MOST_FIGURES or figures[0] == "0":
        return False
    return all(["0" <= sign <= "9" for sign in figures])
