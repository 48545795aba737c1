from tests.model import DeedCase, SHAPES, drawn, edges, ending, pairs
from widewords.quotients import quotient_telling


def wanted_quotient(w, n, x, y):
    return x // y, x % y, [0, 0] + ending(x // y, w * n)


def told_quotient(w, n, i):
    k = w * n
    return [
        (1, i, [("a", 0, n)]), (-1, k, [("b", 0, n), ("c", 0, n)]), (-1, k, [("d", 0, n + 1)]), (-1, 0, [("e", 0, n)])]


def divisible(w, n):
    """Each number by all others that are not nought, and by itself, one more and one less."""
    found = []
    for x, y in pairs(w, n):
        if y:
            found.append((x, y))
    for x in drawn(w + n, 4, 2 ** (w * n) - 2):
        found += [(x + 1, x + 1), (x, x + 1), (x + 1, max(x, 1))]
    return found


class QuotientsTest(DeedCase):
    def test_quotient(self):
        self.check_deed(quotient_telling(), wanted_quotient, divisible)

    def test_every_pair_of_one_small_word(self):
        every = [(x, y) for x in range(16) for y in range(1, 16)]
        self.check_deed(quotient_telling(), wanted_quotient, lambda w, n: every, shapes=[(4, 1)])

    def test_by_nought(self):
        for w, n in SHAPES:
            came = self.check_form(quotient_telling(), w, n)
            for x in edges(w, n) + drawn(w + n, 5, 2 ** (w * n)):
                machine = self.run_steps(came, w, n, x, 0, asked=False)
                self.assertEqual(machine.word(("m", 0)), 1)

    def test_told_terms(self):
        self.check_sentence(quotient_telling(), (0, 0, 1), told_quotient)

    def test_always_the_same(self):
        self.assertEqual(quotient_telling(), quotient_telling())
