import unittest

from widewords import errors

NAMES = [
    "NoFit", "NoText", "NoCell", "NoWord", "NoRow", "NoTelling", "NoDeed", "NoQuotient", "TooMany", "NoLine", "NoName",
    "NoWidth", "NoPair", "NoUndo",
]


class ErrorsTest(unittest.TestCase):
    def test_each_is_caught_as_itself_and_from_above(self):
        for name in NAMES:
            refusal = getattr(errors, name)
            for wider in (refusal, errors.WordError, ValueError):
                with self.assertRaises(wider) as caught:
                    raise refusal("why")
                self.assertEqual(str(caught.exception), "why")

    def test_none_is_caught_as_another(self):
        for name in NAMES:
            made = getattr(errors, name)("why")
            self.assertEqual([other for other in NAMES if isinstance(made, getattr(errors, other))], [name])

    def test_word_error(self):
        self.assertTrue(issubclass(errors.WordError, ValueError))
        with self.assertRaises(ValueError):
            raise errors.WordError("why")
        self.assertFalse(any(isinstance(errors.WordError("why"), getattr(errors, name)) for name in NAMES))
