"""Numbers written by the twos of their words, and read again."""

from widewords.errors import NoText

LEAST_WIDTH = 4
MOST_WIDTH = 16
MOST_WORDS = 8


def shown(number, w):
    """A number written by its words, the last one first, one blank between two."""
    return " ".join([shown_word(word, w) for word in reversed(number)])


def read(text):
    """The width and the number of a text that is written so: (w, number); each other text is refused with NoText."""
    words = text.split(" ")
    w = len(words[0])
    if not LEAST_WIDTH <= w <= MOST_WIDTH or len(words) > MOST_WORDS:
        raise NoText("this is no number of 1 to 8 words of a width from 4 to 16")
    return w, tuple([read_word(word, w) for word in reversed(words)])


def shown_word(word, w):
    return "".join([str(word >> place & 1) for place in reversed(range(w))])


def read_word(text, w):
    if len(text) != w:
        raise NoText(f"{text} is no word of width {w}")
    word = 0
    for sign in text:
        word = 2 * word + read_two(sign)
    return word


def read_two(sign):
    # Python's own reading of figures lets more signs pass, such as a blank, a sign ahead or an underscore.
    if sign != "0" and sign != "1":
        raise NoText(f"{sign} is neither 0 nor 1")
    return 1 if sign == "1" else 0
