from tests.model import DeedCase, edges, drawn, ending, signed, unfit
from widewords.sums import bare_telling, compare_telling, difference_telling, pairwise_telling
from widewords.sums import sum_telling, turned_telling


def wanted_sum(w, n, x, y):
    k = w * n
    answer = (x + y) % 2 ** k
    return answer, None, [int(x + y >= 2 ** k), unfit(signed(x, k) + signed(y, k), k)] + ending(answer, k)


def wanted_difference(w, n, x, y):
    k = w * n
    answer = (x - y) % 2 ** k
    return answer, None, [int(x < y), unfit(signed(x, k) - signed(y, k), k)] + ending(answer, k)


def wanted_turned(w, n, x, y):
    k = w * n
    answer = -x % 2 ** k
    return answer, None, [int(x != 0), unfit(-signed(x, k), k)] + ending(answer, k)


def wanted_compare(w, n, x, y):
    k = w * n
    return None, None, [int(x < y), int(signed(x, k) < signed(y, k)), int(x == y), 0]


def wanted_both(w, n, x, y):
    return x & y, None, [0, 0] + ending(x & y, w * n)


def wanted_any(w, n, x, y):
    return x | y, None, [0, 0] + ending(x | y, w * n)


def wanted_odd(w, n, x, y):
    return x ^ y, None, [0, 0] + ending(x ^ y, w * n)


def wanted_bare(w, n, x, y):
    answer = 2 ** (w * n) - 1 - x
    return answer, None, [0, 0] + ending(answer, w * n)


def told_sum(w, n, i):
    return [(1, 0, [("a", 0, i)]), (1, 0, [("b", 0, i)]), (-1, 0, [("c", 0, i)]), (-1, w * i, [("mark",)])]


def told_difference(w, n, i):
    return [(1, 0, [("a", 0, i)]), (-1, 0, [("b", 0, i)]), (-1, 0, [("c", 0, i)]), (1, w * i, [("mark",)])]


def singles(w, n):
    """For deeds of one number, whatever stands in b."""
    limit = 2 ** (w * n)
    worths = edges(w, n) + drawn(w + n, 20, limit)
    return [(x, y) for x in worths for y in (0, limit - 1, x)]


class SumsTest(DeedCase):
    def test_sum(self):
        self.check_deed(sum_telling(), wanted_sum)

    def test_difference(self):
        self.check_deed(difference_telling(), wanted_difference)

    def test_turned(self):
        self.check_deed(turned_telling(), wanted_turned, singles)

    def test_compare(self):
        self.check_deed(compare_telling(), wanted_compare)

    def test_both(self):
        self.check_deed(pairwise_telling("both"), wanted_both)

    def test_any(self):
        self.check_deed(pairwise_telling("any"), wanted_any)

    def test_odd(self):
        self.check_deed(pairwise_telling("odd"), wanted_odd)

    def test_bare(self):
        self.check_deed(bare_telling(), wanted_bare, singles)

    def test_every_pair_of_one_small_word(self):
        every = [(x, y) for x in range(16) for y in range(16)]
        for telling, wanted in [
            (sum_telling(), wanted_sum), (difference_telling(), wanted_difference),
            (turned_telling(), wanted_turned), (compare_telling(), wanted_compare),
        ]:
            self.check_deed(telling, wanted, lambda w, n: every, shapes=[(4, 1)])

    def test_told_terms(self):
        self.check_sentence(sum_telling(), (0, 1, 0), told_sum)
        self.check_sentence(difference_telling(), (0, 1, 0), told_difference)

    def test_always_the_same(self):
        for made in (sum_telling, difference_telling, turned_telling, compare_telling, bare_telling):
            self.assertEqual(made(), made())
        tellings = [pairwise_telling(name) for name in ("both", "any", "odd")]
        self.assertEqual(tellings, [pairwise_telling(name) for name in ("both", "any", "odd")])
