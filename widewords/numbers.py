"""Numbers of several words, the lowest first, and their plain and signed worths."""

from widewords.errors import NoFit


def words_of(worth, w, n):
    """The number of n words of width w that has a plain worth; refused with NoFit where there is none."""
    if worth < 0 or worth >= 1 << (w * n):
        raise NoFit(f"{worth} is no plain worth of {n} words of width {w}")
    return lowest_words(worth, w, n)


def signed_words(worth, w, n):
    """The number of n words of width w that has a signed worth; refused with NoFit where there is none."""
    half = 1 << (w * n - 1)
    if worth < -half or worth >= half:
        raise NoFit(f"{worth} is no signed worth of {n} words of width {w}")
    return lowest_words(worth, w, n)


def plain(number, w):
    """The plain worth of a number."""
    return sum([word << (w * at) for at, word in enumerate(number)])


def signed(number, w):
    """The signed worth of a number."""
    return plain(number, w) - (sign_of(number, w) << (w * len(number)))


def sign_of(number, w):
    """The sign of a number, 0 or 1."""
    return number[-1] >> (w - 1)


def lowest_words(worth, w, n):
    """The lowest n words of a worth; one below 0 has the words of that worth and 2 to the w n."""
    highest = (1 << w) - 1
    return tuple([worth >> (w * at) & highest for at in range(n)])
