"""What the tests hold against the program: the machine, tellings and sentences, written anew from DOC.md."""

import unittest

WIDTHS = range(4, 17)
MANIES = range(1, 5)
SHAPES = [(w, n) for w in WIDTHS for n in MANIES]

# For each row of [10]: the kinds of what stands behind its name, a cell that is put, a cell that is read, 0 or 1.
ROWS = {
    "set": "pd", "move": "pr", "bare": "pr", "sum": "prr", "less": "prr", "both": "prr", "any": "prr",
    "odd": "prr", "twice": "pr", "half": "pr", "times": "pprr", "mark": "d", "ask": "r",
}


def is_whole(thing, low, high):
    return type(thing) is int and low <= thing <= high


def is_letter(thing):
    return type(thing) is str and len(thing) == 1 and "a" <= thing <= "z"


def are_wholes(thing, many, limit=200):
    return type(thing) is tuple and len(thing) == many and all(is_whole(each, -limit, limit) for each in thing)


def is_row(thing, is_at):
    """A row by [10], where is_at tells of what stands in the place of at."""
    if type(thing) is not tuple or not thing or type(thing[0]) is not str or thing[0] not in ROWS:
        return False
    kinds = ROWS[thing[0]]
    if len(thing) != len(kinds) + 1:
        return False
    for kind, each in zip(kinds, thing[1:]):
        if kind == "d":
            if not is_whole(each, 0, 1):
                return False
        elif type(each) is not tuple or len(each) != 2 or not is_letter(each[0]) or not is_at(each[1]):
            return False
    return thing[0] != "times" or thing[1] != thing[2]


def is_done_row(thing):
    return is_row(thing, lambda at: is_whole(at, 0, 99))


def is_thing(thing):
    if thing == ("mark",):
        return True
    if type(thing) is not tuple or len(thing) != 4 or thing[0] != "slice" or not is_letter(thing[1]):
        return False
    return are_wholes(thing[2], 4) and are_wholes(thing[3], 4)


def is_sentence(thing):
    """A sentence by [14]."""
    if type(thing) is not tuple or len(thing) > 20:
        return False
    for each in thing:
        if type(each) is not tuple or len(each) != 3:
            return False
        f, exponent, things = each
        if not is_whole(f, 1 - 10 ** 40, 10 ** 40 - 1) or not are_wholes(exponent, 6):
            return False
        if type(things) is not tuple or len(things) > 2 or not all(is_thing(one) for one in things):
            return False
    return True


def is_telling(thing, depth=0):
    """A telling by [12]; depth is how many rounds it stands in."""
    return type(thing) is tuple and all(is_part(each, depth) for each in thing)


def is_part(thing, depth):
    if type(thing) is not tuple or not thing:
        return False
    if thing[0] == "row":
        return len(thing) == 2 and is_row(thing[1], lambda at: are_wholes(at, 4))
    return (thing[0] == "rounds" and len(thing) == 4 and depth < 2 and are_wholes(thing[1], 3)
            and is_sentence(thing[2]) and is_telling(thing[3], depth + 1))


def count_of(part, w, n):
    c, m, t = part[1]
    return max(0, c + m * n + t * w * n)


def place(at, n, i, j):
    return at[0] + at[1] * i + at[2] * j + at[3] * n


def steps(telling, w, n):
    """What comes when a telling is unrolled by [13]: ("row", row), ("round",), and by [25] ("ask", sentence, I, J)."""
    return list(walked(telling, w, n, []))


def walked(parts, w, n, gone):
    i, j = (gone + [0, 0])[:2]
    for part in parts:
        if part[0] == "row":
            yield "row", tuple(
                (each[0], place(each[1], n, i, j)) if type(each) is tuple else each for each in part[1])
            continue
        count = count_of(part, w, n)
        for at in range(count):
            yield ("ask", part[2], *(gone + [at, 0])[:2])
            yield ("round",)
            yield from walked(part[3], w, n, gone + [at])
        yield ("ask", part[2], *(gone + [count, 0])[:2])


class Model:
    """The machine of [10]."""

    def __init__(self, w):
        self.w = w
        self.size = 2 ** w
        self.cells = {}
        self.mark = 0

    def word(self, cell):
        return self.cells.get(cell, 0)

    def number(self, letter, many):
        return [self.word((letter, at)) for at in range(many)]

    def put_number(self, letter, worth, n):
        for at in range(n):
            self.cells[letter, at] = worth // self.size ** at % self.size

    def do(self, row):
        name = row[0]
        if name == "mark":
            self.mark = row[1]
        elif name == "ask":
            self.mark = int(self.word(row[1]) != 0)
        elif name == "set":
            self.cells[row[1]] = row[2]
        elif name == "times":
            high, low = divmod(self.word(row[3]) * self.word(row[4]), self.size)
            self.cells[row[1]] = low
            self.cells[row[2]] = high
        else:
            self.cells[row[1]] = self.made(name, *[self.word(cell) for cell in row[2:]])

    def made(self, name, x, y=0):
        if name == "sum":
            self.mark, made = divmod(x + y + self.mark, self.size)
        elif name == "less":
            borrowed, made = divmod(x - y - self.mark, self.size)
            self.mark = -borrowed
        elif name == "twice":
            self.mark, made = divmod(2 * x + self.mark, self.size)
        elif name == "half":
            made, self.mark = x // 2 + self.mark * self.size // 2, x % 2
        else:
            made = {"move": x, "bare": self.size - 1 - x, "both": x & y, "any": x | y, "odd": x ^ y}[name]
        return made


def holds(sentence, n, i, j, machine):
    """Whether a sentence holds by [14]."""
    w = machine.w
    total = 0
    for f, (c, more_i, more_j, p, q, r), things in sentence:
        exponent = c + more_i * i + more_j * j + w * (p * i + q * j + r * n)
        if not 0 <= exponent <= 2000:
            return False
        worth = f * 2 ** exponent
        for thing in things:
            if thing == ("mark",):
                worth *= machine.mark
                continue
            start, end = place(thing[2], n, i, j), place(thing[3], n, i, j)
            if not (0 <= start <= 100 and 0 <= end <= 100):
                return False
            worth *= sum(machine.word((thing[1], at)) << w * (at - start) for at in range(start, end))
        total += worth
    return total == 0


def reckoned(sentence, w, n, i):
    """The terms of a sentence by [29], as a dict of {(exponent, things): f}."""
    found = {}
    for f, (c, more_i, more_j, p, q, r), things in sentence:
        named = []
        for thing in things:
            if thing == ("mark",):
                named.append(thing)
            else:
                named.append((thing[1], place(thing[2], n, i, 0), place(thing[3], n, i, 0)))
        if all(len(each) == 1 or each[2] > each[1] for each in named):
            key = (c + more_i * i + w * (p * i + r * n), tuple(sorted(named)))
            found[key] = found.get(key, 0) + f
    return {key: f for key, f in found.items() if f}


def told(terms):
    """Told terms, written as (f, exponent, things), in the form of reckoned."""
    kept = [(f, exponent, sorted(things)) for f, exponent, things in terms]
    return {
        (exponent, tuple(things)): f for f, exponent, things in kept
        if all(each == ("mark",) or each[2] > each[1] for each in things)}


def drawn(seed, many, limit):
    """Whole numbers from 0 to limit - 1, the same ones each time."""
    found = []
    state = seed * 2654435761 + 1
    for step in range(many):
        worth = 0
        while worth < limit * 2 ** 16:
            state = (state * 6364136223846793005 + 1442695040888963407) % 2 ** 64
            worth = worth * 2 ** 32 + (state >> 32)
        found.append(worth % limit)
    return found


def edges(w, n):
    """Plain worths at the edges: 0, 1, all ones, the least number and those beside it, words of 0 and of W - 1."""
    top = 2 ** (w * n)
    full = 2 ** w - 1
    banded = [sum(full << w * at for at in range(n) if at % 2 == odd) for odd in (0, 1)]
    ends = [full, full << w * (n - 1), top - 1 - full]
    return sorted({0, 1, top - 1, top - 2, top // 2, top // 2 - 1, top // 2 + 1, *banded, *ends})


def pairs(w, n):
    """Edges with edges, and drawn pairs of which some are of few words, so that the numbers are of unlike length."""
    found = [(x, y) for x in edges(w, n) for y in edges(w, n)]
    limit = 2 ** (w * n)
    found += zip(drawn(w * 10 + n, 12, limit), drawn(w * 10 + n + 5, 12, limit))
    found += zip(drawn(w * 20 + n, 6, limit), drawn(w * 20 + n + 5, 6, 2 ** w))
    found += [(x, x) for x in drawn(w * 30 + n, 3, limit)]
    return found


def signed(x, k):
    return x - 2 ** k if x >= 2 ** (k - 1) else x


def unfit(worth, k):
    """1 where a worth is no signed one of k places."""
    return int(not -2 ** (k - 1) <= worth < 2 ** (k - 1))


def ending(answer, k):
    """The nought and the sign of an answer of k places."""
    return [int(answer == 0), answer >> (k - 1)]


class DeedCase(unittest.TestCase):
    """Tests of tellings stand under this class."""

    def check_form(self, telling, w, n):
        """[12], [14] and the bounds of [13] and [15]; tells what comes when it is unrolled."""
        self.assertTrue(is_telling(telling))
        came = steps(telling, w, n)
        rows = [step[1] for step in came if step[0] == "row"]
        self.assertLessEqual(len(rows), 4000)
        self.assertLessEqual(sum(step[0] == "round" for step in came), 4000)
        for row in rows:
            self.assertTrue(is_done_row(row), row)
            for kind, cell in zip(ROWS[row[0]], row[1:]):
                self.assertFalse(kind == "p" and cell[0] in "ab", row)
        return came

    def run_steps(self, came, w, n, x, y, asked=True):
        """The machine behind all rows; each sentence is asked on the way."""
        machine = self.machine_with(w, n, x, y)
        handed = machine.number("a", 100), machine.number("b", 100)
        for step in came:
            if step[0] == "row":
                machine.do(step[1])
            elif step[0] == "ask" and asked and not holds(step[1], n, step[2], step[3], machine):
                self.fail(f"{step} does not hold: w {w} n {n} x {x} y {y}")
        self.assertEqual((machine.number("a", 100), machine.number("b", 100)), handed)
        return machine

    def machine_with(self, w, n, x, y):
        """The machine ahead of all rows."""
        machine = Model(w)
        machine.put_number("a", x, n)
        machine.put_number("b", y, n)
        return machine

    def check_number(self, machine, letter, many, worth, why):
        self.assertEqual(sum(word << machine.w * at for at, word in enumerate(machine.number(letter, many))), worth, why)

    def check_deed(self, telling, wanted, numbers=pairs, words=lambda n: n, shapes=SHAPES):
        """Runs a telling for each w and n; wanted(w, n, x, y) tells (answer or None, rest or None, marks)."""
        for w, n in shapes:
            came = self.check_form(telling, w, n)
            for x, y in numbers(w, n):
                why = f"w {w} n {n} x {x} y {y}"
                machine = self.run_steps(came, w, n, x, y)
                answer, rest, marks = wanted(w, n, x, y)
                if answer is not None:
                    self.check_number(machine, "c", words(n), answer, why)
                if rest is not None:
                    self.check_number(machine, "d", n, rest, why)
                self.assertEqual(machine.number("m", 4), marks, why)

    def check_sentence(self, telling, count, terms):
        """[32]: one of the outer rounds parts of that count reckons to terms(w, n, I) at each I."""
        counted = [part for part in telling if part[0] == "rounds" and part[1] == count]
        self.assertTrue(any(self.reckons(part, terms) for part in counted))

    def reckons(self, part, terms):
        return all(
            reckoned(part[2], w, n, i) == told(terms(w, n, i))
            for w, n in SHAPES for i in range(count_of(part, w, n) + 1))
