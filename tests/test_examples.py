"""The examples of the document, and those of README.md."""

import doctest
import os
import unittest

from wishesrise.above import coupling, is_above, less_at
from wishesrise.fitting import failing, fits
from wishesrise.helping import help_of, hindering, is_kind
from wishesrise.shares import Shares

README = os.path.join(os.path.dirname(os.path.dirname(os.path.abspath(__file__))), "README.md")


class Examples(unittest.TestCase):
    def test_helping_and_fitting(self):
        like = Shares(("a", "b"), (2, 1, 1, 2))
        odd = Shares(("a", "b"), (1, 2, 2, 1))
        found = [help_of(like, ("10", "11"), ("01", "11")), is_kind(like), fits(like), is_kind(odd), hindering(odd),
                 failing(odd)]
        self.assertEqual(repr(found), "[3, True, True, False, (('01', '11'), ('10', '11')), ('01', '10')]")

    def test_above(self):
        low, high = Shares(("a",), (2, 1)), Shares(("a",), (1, 1))
        found = [is_above(high, low), coupling(high, low), is_above(low, high), less_at(low, high)]
        self.assertEqual(repr(found), "[True, (('0', '0', 3), ('1', '0', 1), ('1', '1', 2)), False, ('1',)]")

    def test_readme(self):
        with open(README, encoding="utf-8") as file:
            # The lines that close a block of code are no output.
            text = file.read().replace("```", "")
        test = doctest.DocTestParser().get_doctest(text, {}, "README", README, 0)
        self.assertGreater(len(test.examples), 8)
        runner = doctest.DocTestRunner(verbose=False)
        runner.run(test)
        self.assertEqual(runner.failures, 0)


if __name__ == "__main__":
    unittest.main()
