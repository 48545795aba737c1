"""What a desk asks of a line, by the numbers that its names stand for, before anything is reckoned."""

from widewords.deeds import is_deed
from widewords.errors import NoName, NoPair, NoWidth
from widewords.lines import asked_names

LEAST_WIDTH = 4
MOST_WIDTH = 16
MOST_WORDS = 4
# How the lines that lead wider and narrower read a number, and whether S words come (1) or go (-1).
LEADING = {
    "wider": ("plain", 1),
    "swider": ("signed", 1),
    "narrower": ("plain", -1),
    "snarrower": ("signed", -1),
}
# The lines that may ask numbers of any number of words.
FREE = ("show", "worth", "sworth", "drop")


def refuse_line(told, numbers):
    """Refuses what read_line told with NoName, else NoWidth, else NoPair; numbers are (w, number) by their names."""
    for name in asked_names(told):
        if name not in numbers:
            raise NoName(f"{name} stands for nothing")
    refuse_widths(told, numbers)
    if told[0] not in FREE:
        refuse_pair([numbers[name] for name in asked_names(told)])


def refuse_widths(told, numbers):
    if told[0] in LEADING:
        refuse_lead(told[3], words_led(told, numbers))
    if told[0] in ("plain", "signed", "rows"):
        refuse_shape(told[2], told[3])
    if told[0] == "let":
        refuse_places(told[2])
    if told[0] == "rows":
        refuse_places(told[1])


def words_led(told, numbers):
    """How many words the answer of a line that leads wider or narrower would have."""
    read_by, more = LEADING[told[0]]
    w, number = numbers[told[2]]
    return len(number) + more * told[3]


def refuse_lead(s, many):
    # An S above 100 leads beyond four words or below one anyway.
    if s < 0 or not 1 <= many <= MOST_WORDS:
        raise NoWidth("a number is led to 1 to 4 words")


def refuse_shape(w, n):
    if not LEAST_WIDTH <= w <= MOST_WIDTH or not 1 <= n <= MOST_WORDS:
        raise NoWidth("a width is from 4 to 16, a number has 1 to 4 words")


def refuse_places(deed):
    # All else that a line may tell of a deed has been read, so it is the S of a shift that makes it none.
    if not is_deed(deed):
        raise NoWidth("a number is shifted by 0 to 100 places")


def refuse_pair(asked):
    """Refuses numbers of more than four words, and two numbers of unlike width or number of words."""
    shapes = [(w, len(number)) for w, number in asked]
    for w, n in shapes:
        if n > MOST_WORDS or (w, n) != shapes[0]:
            raise NoPair("these numbers are too wide or don't go together")
