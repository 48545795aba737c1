from tests.model import DeedCase, SHAPES, drawn, edges, ending, pairs, signed, unfit
from widewords.signed import signed_product_telling, signed_quotient_telling


def wanted_product(w, n, x, y):
    k = w * n
    worth = signed(x, k) * signed(y, k)
    answer = worth % 2 ** (2 * k)
    return answer, None, [0, unfit(worth, k)] + ending(answer, 2 * k)


def wanted_quotient(w, n, x, y):
    k = w * n
    above, below = signed(x, k), signed(y, k)
    worth = abs(above) // abs(below)
    if (above < 0) != (below < 0):
        worth = -worth
    answer = worth % 2 ** k
    return answer, (above - below * worth) % 2 ** k, [0, unfit(worth, k)] + ending(answer, k)


def all_signs(worths, k):
    """Pairs of signed worths with both signs of both, as plain ones of k places."""
    return [(one * x % 2 ** k, other * y % 2 ** k) for x, y in worths for one in (1, -1) for other in (1, -1)]


def told_pairs(w, n):
    """The least number by -1, 1, 2 and itself, the other way about too; -1 by -1; nought as x."""
    k = w * n
    least, minus = 2 ** (k - 1), 2 ** k - 1
    found = [(least, y) for y in (minus, 1, 2, least, minus - 1, least + 1, least - 1)]
    found += [(y, x) for x, y in found] + [(minus, minus), (minus, 1), (1, minus)]
    return found + [(0, y) for y in (1, 2, minus, least, least - 1)]


def product_numbers(w, n):
    """Products just beside the greatest and the least signed worth of n words, with both signs of both numbers."""
    k = w * n
    half = k // 2
    rest = k - 1 - half
    beside = [(2 ** half, 2 ** rest), (2 ** half - 1, 2 ** rest), (2 ** half - 1, 2 ** rest + 1), (2 ** (k - 1) - 1, 1)]
    small = list(zip(drawn(w * 60 + n, 4, 2 ** half), drawn(w * 70 + n, 4, 2 ** rest)))
    return told_pairs(w, n) + [(0, 0), (1, 0)] + all_signs(beside + small, k) + pairs(w, n)


def quotient_numbers(w, n):
    """Numbers by themselves, by one more and by one less, by few places, with both signs of both."""
    k = w * n
    found = []
    for x in drawn(w * 80 + n, 2, 2 ** (k - 1) - 2):
        found += [(x + 1, x + 1), (x, x + 1), (x + 1, max(x, 1))]
    found += [(x, y + 1) for x, y in zip(drawn(w * 90 + n, 4, 2 ** (k - 1)), drawn(w * 95 + n, 4, 2 ** (k // 2)))]
    return told_pairs(w, n) + all_signs(found, k) + [(x, y) for x, y in pairs(w, n)[::2] if y]


class SignedTest(DeedCase):
    def test_product(self):
        self.check_deed(signed_product_telling(), wanted_product, product_numbers, lambda n: 2 * n)

    def test_every_product_of_one_small_word(self):
        every = [(x, y) for x in range(16) for y in range(16)]
        self.check_deed(signed_product_telling(), wanted_product, lambda w, n: every, lambda n: 2 * n, [(4, 1)])

    def test_quotient(self):
        self.check_deed(signed_quotient_telling(), wanted_quotient, quotient_numbers)

    def test_every_quotient_of_one_small_word(self):
        every = [(x, y) for x in range(16) for y in range(1, 16)]
        self.check_deed(signed_quotient_telling(), wanted_quotient, lambda w, n: every, shapes=[(4, 1)])

    def test_only_the_least_number_by_minus_one_is_unfit(self):
        for w, n in SHAPES:
            k = w * n
            self.assertEqual(wanted_quotient(w, n, 2 ** (k - 1), 2 ** k - 1)[2][1], 1)
            self.assertEqual(sum(wanted_quotient(w, n, x, y)[2][1] for x, y in set(quotient_numbers(w, n))), 1)

    def test_quotient_by_nought(self):
        for w, n in SHAPES:
            came = self.check_form(signed_quotient_telling(), w, n)
            for x in edges(w, n) + drawn(w + n, 5, 2 ** (w * n)):
                machine = self.run_steps(came, w, n, x, 0, asked=False)
                self.assertEqual(machine.word(("m", 0)), 1)

    def test_always_the_same(self):
        self.assertEqual(signed_product_telling(), signed_product_telling())
        self.assertEqual(signed_quotient_telling(), signed_quotient_telling())
