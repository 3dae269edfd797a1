from fractions import Fraction
import unittest

from dampspells.base.errors import BadRatio, DampError
from dampspells.base.ratio import Ratio

NUMBERS = (-7, -6, -4, -3, -2, -1, 0, 1, 2, 3, 4, 6, 9)
PAIRS = [(top, bottom) for top in NUMBERS for bottom in NUMBERS if bottom]
BIG = 10 ** 60 - 1


class Ratios(unittest.TestCase):
    def same(self, ratio, fraction):
        self.assertIsInstance(ratio, Ratio)
        self.assertEqual((ratio.top, ratio.bottom), (fraction.numerator, fraction.denominator))

    def test_lowest_terms_with_a_positive_bottom(self):
        for top, bottom in PAIRS:
            with self.subTest(top=top, bottom=bottom):
                self.same(Ratio(top, bottom), Fraction(top, bottom))

    def test_zero(self):
        for bottom in (1, -1, 8, -8):
            zero = Ratio(0, bottom)
            self.assertEqual((zero.top, zero.bottom, zero.text()), (0, 1, "0"))

    def test_bottom_is_one_by_default(self):
        self.same(Ratio(-5), Fraction(-5))
        self.same(Ratio(6, bottom=4), Fraction(3, 2))

    def test_bottom_zero(self):
        for top in (0, 1, -3):
            with self.assertRaises(BadRatio) as caught:
                Ratio(top, 0)
            self.assertIsInstance(caught.exception, DampError)

    def test_signs_of_arithmetic(self):
        for one in PAIRS:
            x, p = Ratio(*one), Fraction(*one)
            self.same(-x, -p)
            for other in PAIRS:
                y, q = Ratio(*other), Fraction(*other)
                self.same(x + y, p + q)
                self.same(x - y, p - q)
                self.same(x * y, p * q)
                self.assertIs(x == y, p == q)
                self.assertIs(x != y, p != q)
                self.assertEqual(x.compare(y), (p > q) - (p < q))
            self.same(x, p)

    def test_floor_and_ceiling(self):
        for pair in PAIRS:
            ratio, fraction = Ratio(*pair), Fraction(*pair)
            self.assertEqual(ratio.floor(), fraction.__floor__())
            self.assertEqual(ratio.ceiling(), fraction.__ceil__())

    def test_text(self):
        self.assertEqual((Ratio(1, 2) - Ratio(5, 6)).text(), "-1/3")
        self.assertEqual(Ratio(4, -2).text(), "-2")
        self.assertEqual(Ratio(3, -2).text(), "-3/2")
        self.assertEqual(Ratio(14, 4).text(), "7/2")

    def test_many_digits_stay_exact(self):
        x, y = Ratio(BIG, BIG - 1), Ratio(-BIG + 1, BIG - 2)
        p, q = Fraction(BIG, BIG - 1), Fraction(-BIG + 1, BIG - 2)
        self.same(x + y, p + q)
        self.same(x * y, p * q)
        self.assertEqual(x.compare(y), 1)
        self.assertEqual(Ratio(BIG, BIG - 1).compare(Ratio(BIG - 1, BIG - 2)), -1)
        self.assertEqual((x.floor(), x.ceiling(), y.floor(), y.ceiling()), (1, 2, -2, -1))


if __name__ == "__main__":
    unittest.main()
