from tests.model import DeedCase, SHAPES, drawn, edges, ending, signed
from widewords.led import led_telling

WAYS = ("plain", "signed")


def wanted_led(read, meant, e):
    def wanted(w, n, x, y):
        k = w * (n + e)
        worth = signed(x, w * n) if read == "signed" else x
        answer = worth % 2 ** k
        meaning = signed(answer, k) if meant == "signed" else answer
        return answer, None, [0, int(meaning != worth)] + ending(answer, k)
    return wanted


def led_numbers(e):
    def numbers(w, n):
        """Edges of x and of the answer, and of words that just do and just don't go without loss."""
        limit = 2 ** (w * n)
        half = 2 ** (w * (n + e) - 1)
        near = [half - 1, half, half + 1, 2 * half - 1, 2 * half, limit - half - 1, limit - half, limit - half + 1]
        worths = edges(w, n) + [x for x in near if 0 <= x < limit] + drawn(w + n + e, 5, limit)
        return [(x, y) for x in worths for y in (0, limit - 1)]
    return numbers


class LedTest(DeedCase):
    def check_way(self, read, meant):
        for e in range(-3, 5):
            shapes = [(w, n) for w, n in SHAPES if 1 <= n + e <= 8]
            self.assertTrue(shapes)
            self.check_deed(
                led_telling(read, meant, e), wanted_led(read, meant, e), led_numbers(e), lambda n: n + e, shapes)

    def test_plain_to_plain(self):
        self.check_way("plain", "plain")

    def test_plain_to_signed(self):
        self.check_way("plain", "signed")

    def test_signed_to_plain(self):
        self.check_way("signed", "plain")

    def test_signed_to_signed(self):
        self.check_way("signed", "signed")

    def test_every_number_of_two_small_words(self):
        for read in WAYS:
            for meant in WAYS:
                for e in (-1, 0, 1):
                    self.check_deed(
                        led_telling(read, meant, e), wanted_led(read, meant, e),
                        lambda w, n: [(x, 0) for x in range(256)], lambda n: n + e, [(4, 2)])

    def test_always_the_same(self):
        for read in WAYS:
            for meant in WAYS:
                for e in range(-3, 5):
                    self.assertEqual(led_telling(read, meant, e), led_telling(read, meant, e))
