from tests.model import DeedCase, SHAPES, drawn, edges, ending, signed
from widewords.shifts import down_telling, left_telling, right_telling, roll_telling


def place_of(x, at, k):
    return x >> at & 1 if 0 <= at < k else 0


def wanted_left(s):
    def wanted(w, n, x, y):
        k = w * n
        answer = x * 2 ** s % 2 ** k
        return answer, None, [place_of(x, k - s, k), 0] + ending(answer, k)
    return wanted


def wanted_right(s):
    def wanted(w, n, x, y):
        answer = x // 2 ** s
        return answer, None, [place_of(x, s - 1, w * n), 0] + ending(answer, w * n)
    return wanted


def wanted_down(s):
    def wanted(w, n, x, y):
        k = w * n
        answer = signed(x, k) // 2 ** s % 2 ** k
        went = place_of(x, s - 1, k) if s <= k else x >> (k - 1)
        return answer, None, [went, 0] + ending(answer, k)
    return wanted


def wanted_roll(s):
    def wanted(w, n, x, y):
        k = w * n
        answer = sum(2 ** ((p + s) % k) for p in range(k) if x >> p & 1)
        return answer, None, [0, 0] + ending(answer, k)
    return wanted


def runs_of_ones(k):
    """Worths whose ones stand in one run, at either end and in the middle."""
    return [2 ** (k // 2) - 1, 2 ** k - 2 ** (k // 2), 2 ** (k - 1) - 2, (2 ** (k // 3 + 1) - 1) << k // 3]


def shifted_numbers(w, n):
    """Numbers, and by turns 0 and all ones in b, which is not looked at."""
    limit = 2 ** (w * n)
    worths = sorted(set(edges(w, n) + runs_of_ones(w * n))) + drawn(w * 40 + n, 3, limit)
    return [(x, (limit - 1) * (at % 2)) for at, x in enumerate(worths)]


def few_numbers(w, n):
    top = 2 ** (w * n)
    return [(x, 0) for x in (1, top - 1, top // 2, *drawn(w * 50 + n, 2, top))]


class ShiftsTest(DeedCase):
    def check_way(self, told, wanted):
        for w, n in SHAPES:
            k = w * n
            for s in sorted({0, 1, w - 1, w, w + 1, k - 1, k, k + 1, 99, 100}):
                self.check_deed(told(s), wanted(s), shifted_numbers, shapes=[(w, n)])
        for s in range(101):
            self.check_deed(told(s), wanted(s), few_numbers, shapes=[(4, 1), (7, 2), (16, 4)])
        for s in range(11):
            self.check_deed(told(s), wanted(s), lambda w, n: [(x, 0) for x in range(256)], shapes=[(4, 2)])

    def test_left(self):
        self.check_way(left_telling, wanted_left)

    def test_right(self):
        self.check_way(right_telling, wanted_right)

    def test_down(self):
        self.check_way(down_telling, wanted_down)

    def test_roll(self):
        self.check_way(roll_telling, wanted_roll)

    def test_always_the_same(self):
        for told in (left_telling, right_telling, down_telling, roll_telling):
            for s in (0, 1, 50, 100):
                self.assertEqual(told(s), told(s))
