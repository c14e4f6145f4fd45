"""The values of kinds.py."""

import unittest

from wiretongue import kinds


class Kinds(unittest.TestCase):
    def test_values(self):
        # By repr, so that a list or a truth in the place of a tuple or a number is seen.
        self.assertEqual(repr(kinds.TOP), "'top'")
        self.assertEqual(repr(kinds.TURNS), "('fold', 'share', 'drop')")
        self.assertEqual(repr(kinds.TABLE), "(20, 20)")
        self.assertEqual(repr(kinds.DELAYS), "(1, 2, 3)")
        self.assertEqual(repr(kinds.MOST), "100")


if __name__ == "__main__":
    unittest.main()
