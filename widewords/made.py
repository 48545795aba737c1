"""What rows make of words: each def here is handed w, the words x and y and the mark k, and tells the word that is put
and the mark behind it. Rows of one word leave y aside."""


def made(name, w, x, y, k):
    """The word and the mark that the row of a name makes."""
    make = MAKERS[name]
    return make(w, x, y, k)


def highest(w):
    """The greatest word of width w."""
    return (1 << w) - 1


def moved(w, x, y, k):
    return x, k


def bared(w, x, y, k):
    return highest(w) - x, k


def summed(w, x, y, k):
    total = x + y + k
    return total & highest(w), total >> w


def taken_away(w, x, y, k):
    total = x - y - k
    return total & highest(w), 1 if total < 0 else 0


def in_both(w, x, y, k):
    return x & y, k


def in_any(w, x, y, k):
    return x | y, k


def in_one(w, x, y, k):
    return x ^ y, k


def doubled(w, x, y, k):
    return summed(w, x, x, k)


def halved(w, x, y, k):
    return (x >> 1) | (k << (w - 1)), x & 1


MAKERS = {
    "move": moved,
    "bare": bared,
    "sum": summed,
    "less": taken_away,
    "both": in_both,
    "any": in_any,
    "odd": in_one,
    "twice": doubled,
    "half": halved,
}
