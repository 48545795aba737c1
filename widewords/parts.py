"""What the tellings are built of: cells, rows, rounds, sentences, and the rows that leave the marks."""

# No telling puts anything into this cell, so it holds 0 throughout.
NIL = ("z", (0, 0, 0, 0))
# What is put into these two is read by the next few rows and never again.
SPARE = ("t", (0, 0, 0, 0))
SEEN = ("s", (0, 0, 0, 0))
MARKS = (("m", (0, 0, 0, 0)), ("m", (1, 0, 0, 0)), ("m", (2, 0, 0, 0)), ("m", (3, 0, 0, 0)))
EACH_WORD = (0, 1, 0)


def word(letter, c=0, i=0, j=0, m=0):
    """The cell of a letter at c + i I + j J + m n."""
    return (letter, (c, i, j, m))


def last_word(letter):
    """The cell of the last of a letter's n words."""
    return word(letter, -1, m=1)


def rows(told):
    """The rows of a list, each as a part."""
    return tuple([("row", row) for row in told])


def rounds(count, sentence, inner):
    """A tuple of the one part that goes the inner parts count times."""
    return (("rounds", count, sentence, inner),)


def lowest(letter, c=0, i=0, j=0, m=0):
    """The slice of the lowest c + i I + j J + m n words of a letter."""
    return ("slice", letter, (0, 0, 0, 0), (c, i, j, m))


def term(f, things, i=0, p=0, q=0, r=0):
    """f times the things times 2 to the i I + w (p I + q J + r n)."""
    return (f, (0, i, 0, p, q, r), things)


def moved(to, source, c=0):
    """Parts that bring the lowest c + n words of one letter to another one."""
    sentence = (term(1, (lowest(source, i=1),)), term(-1, (lowest(to, i=1),)))
    return rounds((c, 1, 0), sentence, rows([("move", word(to, i=1), word(source, i=1))]))


def doubled(letter, count):
    """Parts that bring a letter's words one place up, the mark coming in below; they stand within rounds."""
    return rounds(count, (), rows([("twice", word(letter, j=1), word(letter, j=1))]))


def kept_mark(to):
    """The row that puts the mark into a cell; the mark is 0 behind it."""
    return ("sum", to, NIL, NIL)


def kept_contrary(to):
    """The rows that put 1 less the mark into a cell; the mark is 0 behind them."""
    return [("set", to, 1), ("less", to, to, NIL)]


def sign_filled(to, last):
    """The rows that put W - 1 where the highest two of a word is 1, else 0; the mark is that two behind them."""
    return [("twice", SPARE, last), ("less", to, NIL, NIL)]


def gathered_unlike(to, here, fill, count):
    """Parts that let a cell, 0 ahead, be other than 0 where one of count words, here in each round, isn't the fill."""
    return rounds(count, (), rows([("odd", SPARE, here, fill), ("any", to, to, SPARE)]))


def asked_words(letter, m, count):
    """Parts that make the mark 1 where one of a letter's words, count of them from m n on, isn't 0, else 0."""
    gathered = ("any", SEEN, SEEN, word(letter, i=1, m=m))
    return rows([("set", SEEN, 0)]) + rounds(count, (), rows([gathered])) + rows([("ask", SEEN)])


def answer_marks(c, m):
    """Parts that leave the nought and the sign of an answer of c + m n words."""
    sign = [("twice", SPARE, word("c", c - 1, m=m)), kept_mark(MARKS[3])]
    return asked_words("c", 0, (c, m, 0)) + rows(kept_contrary(MARKS[2]) + sign)
