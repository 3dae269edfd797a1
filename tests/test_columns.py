import unittest

from dampspells.base.errors import BadNumber, DampError, Unsound
from dampspells.base.lacquer import Lacquer
from dampspells.lead.loss import sure_by
from dampspells.lead.tops import greatest
from dampspells.shop.columns import sure_columns
from dampspells.sky.climate import Climate
from tests.plain import lacquer_pairs

EXAMPLE = (Lacquer(4, 5), Climate([(2, 5)]))
BAD = (Lacquer(4, 5), Climate([(1, 2), (2, 4), (5, 9)]))


class Columns(unittest.TestCase):
    def test_by_hand(self):
        self.assertEqual(sure_columns(*EXAMPLE, 3), ["   0      1", "   1      6", "   2     11", "   3     16"])
        self.assertEqual(sure_columns(*EXAMPLE, 0), ["   0      1"])
        self.assertEqual(sure_columns(*EXAMPLE, 400)[-1], " 400   2001")

    def test_against_the_hours(self):
        for a, b in lacquer_pairs(12):
            for climate in (Climate([]), greatest(Lacquer(a, b))):
                lines = sure_columns(Lacquer(a, b), climate, 60)
                self.assertEqual(lines[0], "   0      1")
                self.assertEqual(len(lines), 61)
                for n in (0, 1, 9, 10, 33, 60):
                    self.assertEqual(lines[n], str(n).rjust(4) + str(sure_by(Lacquer(a, b), climate, n)).rjust(7))
                self.assertEqual({len(line) for line in lines}, {11})

    def test_errors_in_their_order(self):
        for most in (-1, 401, 10 ** 9):
            with self.assertRaises(BadNumber) as caught:
                sure_columns(*EXAMPLE, most)
            self.assertIsInstance(caught.exception, DampError)
            with self.assertRaises(Unsound) as caught:
                sure_columns(*BAD, most)
            self.assertEqual(caught.exception.kind, (2, 4))
            self.assertIsInstance(caught.exception, DampError)
        for most in (0, 400):
            with self.assertRaises(Unsound):
                sure_columns(*BAD, most)
            self.assertEqual(len(sure_columns(*EXAMPLE, most)), most + 1)

    def test_lists_are_new(self):
        sure_columns(*EXAMPLE, 1).clear()
        self.assertEqual(len(sure_columns(*EXAMPLE, 1)), 2)


if __name__ == "__main__":
    unittest.main()
