from tests.model import DeedCase, ending
from widewords.products import product_telling


def wanted_product(w, n, x, y):
    return x * y, None, [0, int(x * y >= 2 ** (w * n))] + ending(x * y, 2 * w * n)


def told_product(w, n, i):
    return [(1, 0, [("c", 0, n + i)]), (-1, 0, [("a", 0, n), ("b", 0, i)])]


def beside(w, n):
    """Numbers whose product is just below n words, or just fills them."""
    half = w * n // 2
    rest = w * n - half
    return [(2 ** half, 2 ** rest - 1), (2 ** half, 2 ** rest), (2 ** half + 1, 2 ** rest - 1), (2 ** (w * n) - 1, 1)]


class ProductsTest(DeedCase):
    def test_product(self):
        self.check_deed(product_telling(), wanted_product, words=lambda n: 2 * n)

    def test_beside_n_words(self):
        self.check_deed(product_telling(), wanted_product, beside, lambda n: 2 * n)

    def test_every_pair_of_one_small_word(self):
        every = [(x, y) for x in range(16) for y in range(16)]
        self.check_deed(product_telling(), wanted_product, lambda w, n: every, lambda n: 2 * n, [(4, 1)])

    def test_told_terms(self):
        self.check_sentence(product_telling(), (0, 1, 0), told_product)

    def test_always_the_same(self):
        self.assertEqual(product_telling(), product_telling())
