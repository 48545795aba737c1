"""What the lookers ask of the smallest things."""

# The numbers by which tellings and sentences tell counts, places and exponents are from -MOST_TOLD to MOST_TOLD.
MOST_TOLD = 200


def is_whole(thing, low, high):
    """Whether a thing is a whole number from low to high; True and False are none."""
    return isinstance(thing, int) and not isinstance(thing, bool) and low <= thing <= high


def is_letter(thing):
    """Whether a thing is a text of one sign from a to z."""
    return isinstance(thing, str) and len(thing) == 1 and "a" <= thing <= "z"


def are_told(thing, many):
    """Whether a thing is a tuple of that many whole numbers as tellings and sentences tell them."""
    if not isinstance(thing, tuple) or len(thing) != many:
        return False
    return all([is_whole(each, -MOST_TOLD, MOST_TOLD) for each in thing])
