import unittest

from tests.model import DeedCase, SHAPES, drawn, edges, is_telling
from tests.test_led import WAYS, wanted_led
from tests.test_products import told_product, wanted_product
from tests.test_quotients import told_quotient, wanted_quotient
from tests.test_shifts import wanted_down, wanted_left, wanted_right, wanted_roll
from tests.test_signed import wanted_product as wanted_signed_product, wanted_quotient as wanted_signed_quotient
from tests.test_sums import told_difference, told_sum, wanted_any, wanted_bare, wanted_both, wanted_compare
from tests.test_sums import wanted_difference, wanted_odd, wanted_sum, wanted_turned
from widewords import led, products, quotients, shifts, signed, sums
from widewords.deeds import telling
from widewords.errors import NoDeed

# The deeds that are told by one word: what is wanted, and the telling that the test of its own file holds.
NAMED = {
    "sum": (wanted_sum, sums.sum_telling()),
    "difference": (wanted_difference, sums.difference_telling()),
    "turned": (wanted_turned, sums.turned_telling()),
    "compare": (wanted_compare, sums.compare_telling()),
    "both": (wanted_both, sums.pairwise_telling("both")),
    "any": (wanted_any, sums.pairwise_telling("any")),
    "odd": (wanted_odd, sums.pairwise_telling("odd")),
    "bare": (wanted_bare, sums.bare_telling()),
    "product": (wanted_product, products.product_telling()),
    "signed product": (wanted_signed_product, signed.signed_product_telling()),
    "quotient": (wanted_quotient, quotients.quotient_telling()),
    "signed quotient": (wanted_signed_quotient, signed.signed_quotient_telling()),
}
SHIFTS = {
    "left": (wanted_left, shifts.left_telling),
    "right": (wanted_right, shifts.right_telling),
    "down": (wanted_down, shifts.down_telling),
    "roll": (wanted_roll, shifts.roll_telling),
}
LED = [(read, meant, e) for read in WAYS for meant in WAYS for e in range(-3, 5)]
DEEDS = (
    [(name,) for name in NAMED] + [(name, s) for name in SHIFTS for s in range(101)]
    + [("led", *each) for each in LED])

NO_DEEDS = [
    None, True, False, 0, 1, -1, 10 ** 59, "", "sum", "led", "left", (), [], ((),), ([],), (None,), (0,), (True,), ("",),
    ["sum"], ["left", 1], ["led", "plain", "plain", 0], (("sum",),), (["sum"],), ("Sum",), ("sum ",), ("sums",),
    ("sproduct",), ("squotient",), ("signed",), ("signed  product",), ("rest",), ("half",), ("twice",), ("move",),
    ("sum", "difference"), ("left",), ("left", "sum"), ("led",), ("led", 0), ("led", "plain", 0), ("plain", "plain", 0),
    ("led", "plain", "plain"), ("led", 0, "plain", "plain"), ((), ()), ([], 1), (("left",), 1), (["left"], 1),
]
NO_NUMBERS = [True, False, None, "", "0", "1", (), (0,), [0], [], 10 ** 59, -10 ** 59]
NO_WAYS = ["", "Plain", "signed ", "sign", "plains", 0, 1, True, False, None, (), [], ("plain",), ["signed"]]


def drawn_pairs(w, n):
    """Pairs of any length, none with nought as y, and edges with drawn ones."""
    limit = 2 ** (w * n)
    xs = drawn(w * 110 + n, 6, limit) + drawn(w * 120 + n, 2, 2 ** (w * n // 2)) + edges(w, n)[::3]
    ys = [y + 1 for y in drawn(w * 130 + n, len(xs), limit - 1)]
    few = [y + 1 for y in drawn(w * 140 + n, 3, 2 ** (w * n // 2))]
    return list(zip(xs, ys)) + list(zip(xs, few)) + [(y, x or 1) for x, y in zip(xs[-4:], ys[-4:])]


def words_of_answer(name):
    return (lambda n: 2 * n) if name.endswith("product") else (lambda n: n)


class DeedsTest(DeedCase):
    def test_each_deed_has_its_telling(self):
        for name, (wanted, own) in NAMED.items():
            self.assertEqual(telling((name,)), own, name)
        for name, (wanted, own) in SHIFTS.items():
            for s in range(101):
                self.assertEqual(telling((name, s)), own(s), (name, s))
        for read, meant, e in LED:
            self.assertEqual(telling(("led", read, meant, e)), led.led_telling(read, meant, e))

    def test_tellings(self):
        self.assertEqual(len(DEEDS), 12 + 404 + 32)
        for deed in DEEDS:
            self.assertTrue(is_telling(telling(deed)), deed)

    def test_always_the_same(self):
        before = [telling(deed) for deed in DEEDS]
        self.assertEqual([telling(deed) for deed in reversed(DEEDS)], before[::-1])

    def test_named_deeds_come_to_what_is_told(self):
        for name, (wanted, own) in NAMED.items():
            self.check_deed(telling((name,)), wanted, drawn_pairs, words_of_answer(name))

    def test_shifts_come_to_what_is_told(self):
        for name, (wanted, own) in SHIFTS.items():
            for at, (w, n) in enumerate(SHAPES):
                for s in {0, 100, w * n // 2, w * n - 2, *drawn(at, 2, 101)}:
                    self.check_deed(telling((name, s)), wanted(s), drawn_pairs, shapes=[(w, n)])

    def test_led_comes_to_what_is_told(self):
        for read, meant, e in LED:
            shapes = [(w, n) for w, n in SHAPES if 1 <= n + e <= 8]
            told = telling(("led", read, meant, e))
            self.check_deed(told, wanted_led(read, meant, e), drawn_pairs, lambda n: n + e, shapes)

    def test_quotients_by_nought(self):
        for name in ("quotient", "signed quotient"):
            for w, n in SHAPES:
                came = self.check_form(telling((name,)), w, n)
                for x in (0, 1, 2 ** (w * n) - 1, *drawn(w + n, 2, 2 ** (w * n))):
                    self.assertEqual(self.run_steps(came, w, n, x, 0, asked=False).word(("m", 0)), 1)

    def test_told_terms(self):
        self.check_sentence(telling(("sum",)), (0, 1, 0), told_sum)
        self.check_sentence(telling(("difference",)), (0, 1, 0), told_difference)
        self.check_sentence(telling(("product",)), (0, 1, 0), told_product)
        self.check_sentence(telling(("quotient",)), (0, 0, 1), told_quotient)


class NoDeedTest(unittest.TestCase):
    def check_refused(self, thing):
        with self.assertRaises(NoDeed, msg=thing):
            telling(thing)

    def test_strange_things(self):
        for thing in NO_DEEDS:
            self.check_refused(thing)

    def test_a_word_more_or_fewer(self):
        for deed in DEEDS:
            for more in (0, "sum", "plain", None, ()):
                if deed + (more,) not in DEEDS:
                    self.check_refused(deed + (more,))
                self.check_refused((more,) + deed)
            self.check_refused(deed[:-1])
            self.check_refused(list(deed))
            self.check_refused((deed,))

    def test_shifts_out_of_bounds(self):
        for name in SHIFTS:
            for s in [-1, 101, *NO_NUMBERS]:
                self.check_refused((name, s))

    def test_led_out_of_bounds(self):
        for read in WAYS:
            for meant in WAYS:
                for e in [-4, 5, *NO_NUMBERS]:
                    self.check_refused(("led", read, meant, e))
        for way in NO_WAYS:
            self.check_refused(("led", way, "plain", 0))
            self.check_refused(("led", "signed", way, 0))

    def test_refused_may_be_asked_again(self):
        thing = ["left", 1]
        self.check_refused(thing)
        self.check_refused(thing)
        self.assertEqual(thing, ["left", 1])
        self.assertEqual(telling(tuple(thing)), shifts.left_telling(1))
