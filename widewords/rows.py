"""What a row of the machine is."""

from widewords.shapes import are_told, is_letter, is_whole

# What stands behind the name of each row.
ROWS = {
    "set": ("cell", "figure"),
    "move": ("cell", "cell"),
    "bare": ("cell", "cell"),
    "sum": ("cell", "cell", "cell"),
    "less": ("cell", "cell", "cell"),
    "both": ("cell", "cell", "cell"),
    "any": ("cell", "cell", "cell"),
    "odd": ("cell", "cell", "cell"),
    "twice": ("cell", "cell"),
    "half": ("cell", "cell"),
    "times": ("cell", "cell", "cell", "cell"),
    "mark": ("figure",),
    "ask": ("cell",),
}


def is_row(thing):
    """Whether a thing is a row, whatever it is made of."""
    return has_form(thing, False)


def is_told_row(thing):
    """Whether a thing is a row as tellings bear it, with (c, i, j, m) in the place of each at."""
    return has_form(thing, True)


def has_form(thing, told):
    """Whether a thing is a row, with told places in its cells or with numbers."""
    if not is_named(thing) or len(thing) != len(ROWS[thing[0]]) + 1:
        return False
    for kind, operand in zip(ROWS[thing[0]], thing[1:]):
        if not is_operand(kind, operand, told):
            return False
    return thing[0] != "times" or thing[1] != thing[2]


def is_named(thing):
    """Whether a thing is a tuple that begins with the name of a row."""
    # A list can't be looked up among the names, so the name is known for a text first.
    return isinstance(thing, tuple) and len(thing) > 0 and isinstance(thing[0], str) and thing[0] in ROWS


def is_operand(kind, thing, told):
    if kind == "figure":
        return is_whole(thing, 0, 1)
    return is_told_cell(thing) if told else is_cell(thing)


def is_cell(thing):
    """Whether a thing is a tuple (letter, at)."""
    return is_lettered(thing) and is_whole(thing[1], 0, 99)


def is_told_cell(thing):
    """Whether a thing is a tuple (letter, (c, i, j, m))."""
    return is_lettered(thing) and are_told(thing[1], 4)


def is_lettered(thing):
    """Whether a thing is a tuple of a letter and one thing more."""
    return isinstance(thing, tuple) and len(thing) == 2 and is_letter(thing[0])
