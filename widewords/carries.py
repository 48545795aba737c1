"""The places at which the carries of a sum are made and taken."""

from widewords.errors import NoFit


def carries(x, y, many):
    """The rising pairs (made at, taken at) of the carries of x + y in many places."""
    refuse_unfit(x, y, many)
    made = x & y
    passing = x ^ y
    return tuple([(p, taken_at(passing, p, many)) for p in range(many) if made >> p & 1])


def ones(worth):
    """How many twos of a worth are 1."""
    found = 0
    while worth > 0:
        found += worth & 1
        worth >>= 1
    return found


def settled(x, y, many):
    """How often (x, y) is changed for (x odd y, twice x both y) until they have no place in common."""
    refuse_unfit(x, y, many)
    changes = 0
    while x & y:
        x, y = x ^ y, 2 * (x & y)
        changes += 1
    return changes


def refuse_unfit(x, y, many):
    for worth in (x, y):
        if worth < 0 or worth.bit_length() > many:
            raise NoFit(f"{worth} is no plain worth of {many} places")


def taken_at(passing, made_at, many):
    """The first place above made_at that lets no carry through, or many where there is none below it."""
    place = made_at + 1
    while place < many and passing >> place & 1:
        place += 1
    return place
