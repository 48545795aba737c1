"""Things that are changed once, for the tests of the lookers."""

# What is put into any place: whole numbers at all edges that the document names, texts, words, tuples and lists.
STRANGE = [
    None, True, False, 0, 1, 2, -1, 99, 100, 200, 201, -200, -201, 10 ** 40 - 1, 10 ** 40, 1 - 10 ** 40, -10 ** 40,
    10 ** 59, "", "a", "z", "`", "{", "A", "aa", "0", " ", "row", "rounds", "slice", "mark", "set", "sum", "times",
    (), [], ((),), [()], (0,), [0], (0, 0, 0), (0, 0, 0, 0), [0, 0, 0, 0], ("a", 0), ("a", (0, 0, 0, 0)),
    ("mark",), ["mark"], ("mark", 0), (("mark",),), ("row", ("mark", 0)), ("rounds", (0, 0, 0), (), ()),
]


def changed(thing, strange=STRANGE):
    """All things that come where one thing within, at any depth, or the whole is changed for a strange one, left out,
    doubled, beside a strange one, or a list in the place of a tuple."""
    found = list(strange)
    if isinstance(thing, tuple):
        found.append(list(thing))
        found += [thing + (each,) for each in strange]
        for at, each in enumerate(thing):
            found.append(thing[:at] + thing[at + 1:])
            found.append(thing[:at] + (each,) + thing[at:])
            found += [thing[:at] + (other,) + thing[at + 1:] for other in changed(each, strange)]
    return found


def nested(depth, innermost=()):
    """Tuples within one another, deeper than calls may go."""
    thing = innermost
    for step in range(depth):
        thing = (thing,)
    return thing
