"""The deeds, and the telling of each."""

from widewords.errors import NoDeed
from widewords.led import led_telling
from widewords.products import product_telling
from widewords.quotients import quotient_telling
from widewords.shapes import is_whole
from widewords.shifts import down_telling, left_telling, right_telling, roll_telling
from widewords.signed import signed_product_telling, signed_quotient_telling
from widewords.sums import bare_telling, compare_telling, difference_telling, pairwise_telling
from widewords.sums import sum_telling, turned_telling
from widewords.tellings import unrolled

PAIRWISE = ("both", "any", "odd")
LONE = ("turned", "bare")
PAIRED = (
    "sum", "difference", "compare", "both", "any", "odd", "product", "signed product", "quotient", "signed quotient",
)
PRODUCTS = ("product", "signed product")
QUOTIENTS = ("quotient", "signed quotient")
SHIFTS = ("left", "right", "down", "roll")
WAYS = ("plain", "signed")


def telling(deed):
    """The telling of a deed; refused with NoDeed for what is none, of any shape."""
    if not is_deed(deed):
        raise NoDeed("this is no deed")
    if deed[0] == "led":
        return led_telling(deed[1], deed[2], deed[3])
    if deed[0] in SHIFTS:
        return shift_telling(deed[0], deed[1])
    if deed[0] in PAIRWISE:
        return pairwise_telling(deed[0])
    return named_telling(deed[0])


def deed_rows(deed, w, n):
    """The rows of a deed's telling, for w and n."""
    return unrolled(telling(deed), w, n)


def is_deed(thing):
    """Whether a thing is a deed, whatever it is made of."""
    if not isinstance(thing, tuple) or len(thing) == 0:
        return False
    if thing[0] == "led":
        return len(thing) == 4 and thing[1] in WAYS and thing[2] in WAYS and is_whole(thing[3], -3, 4)
    if thing[0] in SHIFTS:
        return len(thing) == 2 and is_whole(thing[1], 0, 100)
    return len(thing) == 1 and (thing[0] in PAIRED or thing[0] in LONE)


def is_paired(deed):
    """Whether a deed is one of two numbers."""
    return deed[0] in PAIRED


def answer_words(deed, n):
    """How many words the answer of a deed has, of numbers of n words."""
    if deed[0] == "compare":
        return 0
    if deed[0] == "led":
        return n + deed[3]
    return 2 * n if deed[0] in PRODUCTS else n


def rest_words(deed, n):
    """How many words the rest of a deed has, of numbers of n words; 0 where there is none."""
    return n if deed[0] in QUOTIENTS else 0


def shift_telling(name, s):
    if name == "left":
        return left_telling(s)
    if name == "right":
        return right_telling(s)
    if name == "down":
        return down_telling(s)
    return roll_telling(s)


def named_telling(name):
    """The telling of a deed that is told by its name alone."""
    if name == "sum":
        return sum_telling()
    if name == "difference":
        return difference_telling()
    if name == "turned":
        return turned_telling()
    if name == "compare":
        return compare_telling()
    if name == "bare":
        return bare_telling()
    if name == "product":
        return product_telling()
    if name == "signed product":
        return signed_product_telling()
    if name == "quotient":
        return quotient_telling()
    return signed_quotient_telling()
