"""What the lookers ask of the smallest things."""


def is_whole(thing, low, high):
    """Whether a thing is a whole number from low to high; True and False are none."""
    return isinstance(thing, int) and not isinstance(thing, bool) and low <= thing <= high


def is_letter(thing):
    """Whether a thing is a text of one sign from a to z."""
    return isinstance(thing, str) and len(thing) == 1 and "a" <= thing <= "z"
