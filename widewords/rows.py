"""What a row of the machine is."""

from widewords.shapes import is_letter, is_whole

# What stands behind the name of each row.
ROWS = {
    "set": ("cell", "figure"),
    "move": ("cell", "cell"),
    "bare": ("cell", "cell"),
    "sum": ("cell", "cell", "cell"),
    "less": ("cell", "cell", "cell"),
    "both": ("cell", "cell", "cell"),
    "any": ("cell", "cell", "cell"),
    "odd": ("cell", "cell", "cell"),
    "twice": ("cell", "cell"),
    "half": ("cell", "cell"),
    "times": ("cell", "cell", "cell", "cell"),
    "mark": ("figure",),
    "ask": ("cell",),
}


def is_row(thing):
    """Whether a thing is a row, whatever it is made of."""
    if not is_named(thing) or len(thing) != len(ROWS[thing[0]]) + 1:
        return False
    for kind, operand in zip(ROWS[thing[0]], thing[1:]):
        if not is_operand(kind, operand):
            return False
    return thing[0] != "times" or thing[1] != thing[2]


def is_named(thing):
    """Whether a thing is a tuple that begins with the name of a row."""
    # A list can't be looked up among the names, so the name is known for a text first.
    return isinstance(thing, tuple) and len(thing) > 0 and isinstance(thing[0], str) and thing[0] in ROWS


def is_operand(kind, thing):
    return is_cell(thing) if kind == "cell" else is_whole(thing, 0, 1)


def is_cell(thing):
    """Whether a thing is a tuple (letter, at)."""
    return isinstance(thing, tuple) and len(thing) == 2 and is_letter(thing[0]) and is_whole(thing[1], 0, 99)
