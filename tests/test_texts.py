"""Point 13: the text of a lot, the text of shares."""

import unittest

from wishesrise.texts import lot_text, shares_parts, shares_text


class Texts(unittest.TestCase):
    def test_lots(self):
        self.assertEqual(lot_text(()), "none")
        self.assertEqual(lot_text(("01",)), "01")
        self.assertEqual(lot_text(("01", "10", "11")), "01 10 11")
        self.assertEqual(lot_text(lot=("0", "1")), "0 1")

    def test_shares(self):
        self.assertEqual(shares_text(("a",), (0, 1)), "marks a\n1: 1")
        self.assertEqual(shares_text(("a", "b"), (10, 0, 0, 200)), "marks a, b\n00: 10\n11: 200")

    def test_parts(self):
        self.assertEqual(shares_parts("marks a, b\n00: 10\n11: 200"), (("a", "b"), (10, 0, 0, 200)))
        self.assertIsNone(shares_parts(""))
        self.assertIsNone(shares_parts("marks a"))


if __name__ == "__main__":
    unittest.main()
