"""A desk written anew from DOC.md, which the tests hold against the program's."""

from tests.model import signed, steps
from tests.test_deeds import NAMED, SHIFTS
from tests.test_led import wanted_led
from tests.test_lines import LINES
from widewords.deeds import telling

WORDS = {"sproduct": "signed product", "squotient": "signed quotient"}
LEADS = {"wider": ("plain", 1), "swider": ("signed", 1), "narrower": ("plain", -1), "snarrower": ("signed", -1)}


class Refused(Exception):
    """With the name of the refusal as its text."""


class DeskModel:
    def __init__(self):
        self.kept = {}
        self.past = []
        self.future = []

    def tell(self, line):
        self.demand(LINES.fullmatch(line), "NoLine")
        words = line.split(" ")
        first, rest = words[0], words[1:]
        if first in ("undo", "redo"):
            return self.turn(first)
        if first == "names":
            return " ".join(sorted(self.kept)) or "none"
        if first in ("plain", "signed"):
            return self.begin(first, rest[0], *[int(word) for word in rest[1:]])
        if first in ("drop", "show", "worth", "sworth"):
            return self.look(first, rest[0])
        if first in ("compare", "carries"):
            return self.compare(first, *self.asked(rest))
        if first == "rows":
            return self.rows(rest)
        return self.let(first, rest)

    def demand(self, right, refusal):
        if not right:
            raise Refused(refusal)

    def turn(self, first):
        here, there = (self.past, self.future) if first == "undo" else (self.future, self.past)
        self.demand(here, "NoUndo")
        there.append(self.kept)
        self.kept = here.pop()
        return "done"

    def do(self, kept):
        self.past.append(self.kept)
        self.kept = kept
        self.future = []

    def begin(self, way, name, w, n, worth):
        self.demand(4 <= w <= 16 and 1 <= n <= 4, "NoWidth")
        k = w * n
        low = 0 if way == "plain" else -2 ** (k - 1)
        self.demand(low <= worth < low + 2 ** k, "NoFit")
        self.do(self.kept | {name: (w, n, worth % 2 ** k)})
        return self.written(name)

    def written(self, name):
        w, n, worth = self.kept[name]
        figures = f"{worth:0{w * n}b}"
        return " ".join(figures[at:at + w] for at in range(0, w * n, w))

    def look(self, first, name):
        self.demand(name in self.kept, "NoName")
        w, n, worth = self.kept[name]
        if first == "drop":
            self.do({other: kept for other, kept in self.kept.items() if other != name})
            return "done"
        if first == "show":
            return self.written(name)
        return str(worth if first == "worth" else signed(worth, w * n))

    def known(self, names):
        for name in names:
            self.demand(name in self.kept, "NoName")
        return [self.kept[name] for name in names]

    def paired(self, numbers):
        self.demand(len({number[:2] for number in numbers}) == 1, "NoPair")
        self.demand(all(n <= 4 for w, n, worth in numbers), "NoPair")
        return numbers

    def asked(self, names):
        return self.paired(self.known(names))

    def compare(self, first, one, other):
        k = one[0] * one[1]
        x, y = one[2], other[2]
        if first == "carries":
            return " ".join(f"{p}-{self.taken(x, y, p, k)}" for p in range(k) if x & y & 1 << p) or "none"
        return " ".join(
            "alike" if a == b else "less" if a < b else "more" for a, b in [(x, y), (signed(x, k), signed(y, k))])

    def taken(self, x, y, p, k):
        return min([q for q in range(p + 1, k) if not (x ^ y) & 1 << q] + [k])

    def rows(self, rest):
        *named, w, n = rest
        deed = self.deed_of(named)
        self.demand(4 <= int(w) <= 16 and 1 <= int(n) <= 4 and 0 <= (deed + (0,))[1] <= 100, "NoWidth")
        return str(sum(step[0] == "row" for step in steps(telling(deed), int(w), int(n))))

    def deed_of(self, named):
        name = WORDS.get(named[0], named[0])
        return (name, int(named[1])) if name in SHIFTS else (name,)

    def let(self, first, rest):
        """Lines of let, of rests, and those that lead wider and narrower."""
        name = rest[0]
        if first in LEADS:
            return self.lead(first, name, rest[1], int(rest[2]))
        if first in ("rest", "srest"):
            deed, names = (WORDS["squotient"] if first == "srest" else "quotient",), rest[1:]
        else:
            many = 2 if rest[1] in SHIFTS else 1
            deed, names = self.deed_of(rest[1:]), rest[1 + many:]
        numbers = self.known(names)
        self.demand(0 <= (deed + (0,))[1] <= 100, "NoWidth")
        w, n, x = self.paired(numbers)[0]
        y = numbers[-1][2]
        self.demand(y or not deed[0].endswith("quotient"), "NoQuotient")
        wanted = SHIFTS[deed[0]][0](deed[1]) if deed[0] in SHIFTS else NAMED[deed[0]][0]
        answer, left, marks = wanted(w, n, x, y)
        many = 2 * n if deed[0].endswith("product") else n
        return self.keep(name, w, many, left if first.endswith("rest") else answer, marks)

    def lead(self, first, name, one, s):
        w, n, x = self.known([one])[0]
        way, more = LEADS[first]
        self.demand(0 <= s <= 100 and 1 <= n + more * s <= 4, "NoWidth")
        self.demand(n <= 4, "NoPair")
        answer, left, marks = wanted_led(way, way, more * s)(w, n, x, 0)
        return self.keep(name, w, n + more * s, answer, marks)

    def keep(self, name, w, n, worth, marks):
        self.do(self.kept | {name: (w, n, worth)})
        return self.written(name) + " " + "".join(str(mark) for mark in marks)
