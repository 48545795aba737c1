import unittest

from tests.model import DeedCase, SHAPES, drawn, edges, holds as model_holds, pairs, steps
from tests.test_deeds import DEEDS, LED, NAMED, NO_DEEDS, SHIFTS, drawn_pairs
from tests.test_led import led_numbers, wanted_led
from tests.test_shifts import shifted_numbers
from tests.test_signed import product_numbers, quotient_numbers
from widewords.deeds import telling
from widewords.errors import NoDeed, NoFit, NoQuotient
from widewords.sentences import holds
from widewords.tellings import unrolled
from widewords.worths import comes

ONE_NUMBER = ("turned", "bare", "left", "right", "down", "roll", "led")
QUOTIENTS = ("quotient", "signed quotient")


def words(worth, w, many):
    return tuple(worth // 2 ** (w * at) % 2 ** w for at in range(many))


def answer_words(deed, n):
    if deed[0] == "led":
        return n + deed[3]
    return 2 * n if deed[0].endswith("product") else n


def written(deed, w, n, wanted):
    """What a test of the tellings wants, as comes tells it."""
    answer, rest, marks = wanted
    answer = () if answer is None else words(answer, w, answer_words(deed, n))
    return answer, () if rest is None else words(rest, w, n), tuple(marks)


def shifts_of(w, n, at):
    k = w * n
    return sorted({0, 1, w - 1, w, w + 1, k - 1, k, k + 1, 99, 100, *drawn(at, 3, 101)})


def cases():
    """Each deed with each w and n: (deed, w, n, what is wanted, worths)."""
    for w, n in SHAPES:
        for name, (wanted, own) in NAMED.items():
            more = product_numbers(w, n) + quotient_numbers(w, n) if name.startswith("signed") else []
            yield (name,), w, n, wanted, pairs(w, n) + drawn_pairs(w, n) + more
        for at, (name, (wanted, own)) in enumerate(SHIFTS.items()):
            for s in shifts_of(w, n, at + w * n):
                yield (name, s), w, n, wanted(s), shifted_numbers(w, n)
        for read, meant, e in LED:
            if 1 <= n + e <= 8:
                yield ("led", read, meant, e), w, n, wanted_led(read, meant, e), led_numbers(e)(w, n)


def is_kept(thing):
    """Whether a thing is (answer, rest, marks), tuples of whole numbers."""
    if type(thing) is not tuple or len(thing) != 3 or len(thing[2]) != 4:
        return False
    return all(type(each) is tuple and all(type(word) is int for word in each) for each in thing)


class ComesTest(DeedCase):
    def test_told(self):
        for deed, w, n, x, y, wanted in [
            (("sum",), 4, 2, 200, 100, ((12, 2), (), (1, 0, 0, 0))),
            (("sum",), 4, 1, 7, 1, ((8,), (), (0, 1, 0, 1))),
            (("sum",), 4, 1, 8, 8, ((0,), (), (1, 1, 1, 0))),
            (("difference",), 4, 1, 3, 5, ((14,), (), (1, 0, 0, 1))),
            (("difference",), 4, 1, 8, 1, ((7,), (), (0, 1, 0, 0))),
            (("turned",), 4, 2, 0, 0, ((0, 0), (), (0, 0, 1, 0))),
            (("turned",), 4, 2, 128, 0, ((0, 8), (), (1, 1, 0, 1))),
            (("compare",), 4, 1, 7, 8, ((), (), (1, 0, 0, 0))),
            (("compare",), 4, 1, 8, 7, ((), (), (0, 1, 0, 0))),
            (("compare",), 4, 1, 8, 8, ((), (), (0, 0, 1, 0))),
            (("both",), 4, 1, 12, 10, ((8,), (), (0, 0, 0, 1))),
            (("any",), 4, 1, 12, 10, ((14,), (), (0, 0, 0, 1))),
            (("odd",), 4, 1, 12, 10, ((6,), (), (0, 0, 0, 0))),
            (("bare",), 4, 2, 255, 0, ((0, 0), (), (0, 0, 1, 0))),
            (("left", 3), 4, 2, 0b11100000, 0, ((0, 0), (), (1, 0, 1, 0))),
            (("right", 2), 4, 2, 0b10, 0, ((0, 0), (), (1, 0, 1, 0))),
            (("down", 9), 4, 2, 128, 0, ((15, 15), (), (1, 0, 0, 1))),
            (("down", 100), 4, 2, 127, 0, ((0, 0), (), (0, 0, 1, 0))),
            (("roll", 9), 4, 2, 129, 0, ((3, 0), (), (0, 0, 0, 0))),
            (("product",), 4, 1, 15, 15, ((1, 14), (), (0, 1, 0, 1))),
            (("signed product",), 4, 1, 15, 15, ((1, 0), (), (0, 0, 0, 0))),
            (("signed product",), 4, 1, 8, 15, ((8, 0), (), (0, 1, 0, 0))),
            (("quotient",), 4, 2, 200, 7, ((12, 1), (4, 0), (0, 0, 0, 0))),
            (("signed quotient",), 4, 1, 9, 2, ((13,), (15,), (0, 0, 0, 1))),
            (("signed quotient",), 4, 1, 8, 15, ((8,), (0,), (0, 1, 0, 1))),
            (("led", "signed", "signed", 1), 4, 1, 9, 0, ((9, 15), (), (0, 0, 0, 1))),
            (("led", "signed", "plain", 1), 4, 1, 9, 0, ((9, 15), (), (0, 1, 0, 1))),
            (("led", "plain", "signed", -1), 4, 2, 8, 0, ((8,), (), (0, 1, 0, 1))),
            (("led", "plain", "plain", -1), 4, 2, 16, 0, ((0,), (), (0, 1, 1, 0))),
        ]:
            self.assertEqual(comes(deed, w, n, x, y), wanted, (deed, w, n, x, y))

    def test_as_whole_numbers_tell(self):
        asked = set()
        for deed, w, n, wanted, worths in cases():
            asked.add(deed)
            for x, y in worths:
                y = 0 if deed[0] in ONE_NUMBER else y
                if deed[0] in QUOTIENTS and y == 0:
                    continue
                told = comes(deed, w, n, x, y)
                self.assertEqual(told, written(deed, w, n, wanted(w, n, x, y)), (deed, w, n, x, y))
                self.assertTrue(is_kept(told), told)
        self.assertTrue(set(DEEDS) - asked <= {(name, s) for name in SHIFTS for s in range(101)})

    def test_every_shift(self):
        for name, (wanted, own) in SHIFTS.items():
            for s in range(101):
                for w, n in [(4, 1), (5, 3), (16, 4)]:
                    for x in edges(w, n) + drawn(s, 2, 2 ** (w * n)):
                        told = written((name, s), w, n, wanted(s)(w, n, x, 0))
                        self.assertEqual(comes((name, s), w, n, x, 0), told, (name, s, w, n, x))

    def test_every_pair_of_one_small_word(self):
        for name, (wanted, own) in NAMED.items():
            for x in range(16):
                for y in range(1 if name in QUOTIENTS else 0, 1 if name in ONE_NUMBER else 16):
                    told = written((name,), 4, 1, wanted(4, 1, x, y))
                    self.assertEqual(comes((name,), 4, 1, x, y), told, (name, x, y))

    def test_as_the_rows_come_to(self):
        for at, (deed, w, n, wanted, worths) in enumerate(cases()):
            came = [("row", row) for row in unrolled(telling(deed), w, n)]
            many = 0 if deed[0] == "compare" else answer_words(deed, n)
            step = 1 + len(worths) // 4
            for x, y in worths[at % step::step]:
                y = 0 if deed[0] in ONE_NUMBER else y or 1
                machine = self.run_steps(came, w, n, x, y)
                answer, rest = machine.number("c", many), machine.number("d", n if deed[0] in QUOTIENTS else 0)
                told = tuple(answer), tuple(rest), tuple(machine.number("m", 4))
                self.assertEqual(comes(deed, w, n, x, y), told, (deed, w, n, x, y))


class RefusedTest(unittest.TestCase):
    def tell(self, deed, w, n, x, y):
        return comes(deed, w, n, x, y)

    def check_refused(self, error, deed, w, n, x, y):
        for again in range(2):
            with self.assertRaises(error, msg=(deed, w, n, x, y)) as caught:
                self.tell(deed, w, n, x, y)
            self.assertIs(type(caught.exception), error)

    def test_no_deed(self):
        for deed in NO_DEEDS + [("left", -1), ("roll", 101), ("left", True), ("led", "plain", "plain", 5)]:
            for x, y in [(0, 0), (1, 1), (-1, 0), (16, 0), (0, 16)]:
                self.check_refused(NoDeed, deed, 4, 1, x, y)

    def test_no_fit(self):
        for w, n in SHAPES:
            top = 2 ** (w * n)
            for deed in [("sum",), ("compare",), ("odd",), ("product",), ("quotient",), ("signed quotient",)]:
                for x, y in [(-1, 1), (top, 1), (1, -1), (1, top), (-1, 0), (top, 0), (10 ** 59, 1), (0, -10 ** 59)]:
                    self.check_refused(NoFit, deed, w, n, x, y)
                self.tell(deed, w, n, top - 1, top - 1)
            for deed in [("turned",), ("bare",), ("left", 0), ("right", 100), ("down", 3), ("roll", 1),
                         ("led", "plain", "signed", 0), ("led", "signed", "signed", 4)]:
                for x, y in [(-1, 0), (top, 0), (1, 1), (0, top - 1), (0, top), (0, -1), (10 ** 59, 0), (-1, 1)]:
                    self.check_refused(NoFit, deed, w, n, x, y)
                self.tell(deed, w, n, top - 1, 0)

    def test_no_quotient(self):
        for w, n in SHAPES:
            for name in QUOTIENTS:
                for x in edges(w, n):
                    self.check_refused(NoQuotient, (name,), w, n, x, 0)
                self.check_refused(NoFit, (name,), w, n, 2 ** (w * n), 0)


class ToldSentencesTest(DeedCase):
    def test_they_hold(self):
        """[31], by holds, ahead of each round and behind the last one."""
        for at, (deed, w, n, wanted, worths) in enumerate(cases()):
            if deed[0] in SHIFTS and at % 3:
                continue
            came = steps(telling(deed), w, n)
            x, y = worths[at % len(worths)]
            machine = self.machine_with(w, n, x, y or 1)
            for step in came:
                if step[0] == "row":
                    machine.do(step[1])
                elif step[0] == "ask" and step[1] != ():
                    cells = tuple(machine.cells.items())
                    self.assertTrue(model_holds(step[1], n, step[2], step[3], machine))
                    told = holds(step[1], w, n, step[2], step[3], cells, machine.mark)
                    self.assertIs(told, True, (deed, step, w, n, x, y))
