import doctest
import pathlib
import unittest

README = pathlib.Path(__file__).parent.parent / "README.md"


class ReadmeTest(unittest.TestCase):
    def test_examples(self):
        done = doctest.testfile(str(README), module_relative=False)
        self.assertEqual(done.failed, 0)
        self.assertGreater(done.attempted, 30)
