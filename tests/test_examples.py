"""All examples of the document, one behind the other."""

import doctest
import pathlib
import unittest

EXAMPLES = pathlib.Path(__file__).resolve().parent / "examples.txt"


class Examples(unittest.TestCase):
    def test_examples(self):
        failed, tried = doctest.testfile(str(EXAMPLES), module_relative=False)
        self.assertEqual(failed, 0)
        self.assertEqual(tried, 27)


if __name__ == "__main__":
    unittest.main()
