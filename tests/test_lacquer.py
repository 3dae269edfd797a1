from inspect import isgeneratorfunction
import unittest

from dampspells.base.errors import BadLacquer, BadNumber, DampError
from dampspells.base.lacquer import Lacquer, lacquers
from tests.plain import lacquer_pairs


class Lacquers(unittest.TestCase):
    def test_numbers(self):
        for a in range(-1, 15):
            for b in range(-1, 15):
                with self.subTest(a=a, b=b):
                    if 1 <= a < b <= 12:
                        lacquer = Lacquer(a, b)
                        self.assertEqual((lacquer.a, lacquer.b, lacquer.slack), (a, b, b - a))
                    else:
                        with self.assertRaises(BadLacquer) as caught:
                            Lacquer(a, b)
                        self.assertIsInstance(caught.exception, DampError)

    def test_most(self):
        self.assertEqual(Lacquer.MOST, 12)
        self.assertEqual(Lacquer(1, 12).MOST, 12)

    def test_equal(self):
        self.assertIs(Lacquer(2, 5) == Lacquer(2, 5), True)
        self.assertIs(Lacquer(2, 5) == Lacquer(1, 5), False)
        self.assertIs(Lacquer(2, 5) == Lacquer(2, 6), False)
        self.assertIs(Lacquer(2, 5) != Lacquer(2, 5), False)

    def test_steps(self):
        for a, b in lacquer_pairs(12):
            lacquer = Lacquer(a, b)
            for step in range(-3, 16):
                self.assertIs(step in lacquer, step in list(range(a, b + 1)))

    def test_spans_turns_and_lead(self):
        for a, b in lacquer_pairs(12):
            lacquer = Lacquer(a, b)
            for many in range(0, 150):
                spans = next(k for k in range(200) if k * (b - a) >= many)
                turns = next(k for k in range(200) if k * a >= many)
                self.assertEqual(lacquer.spans(many), spans)
                self.assertEqual(lacquer.turns(many), turns)
                if many >= 1:
                    self.assertEqual(lacquer.lead(many), (spans - 1) * a)

    def test_examples(self):
        self.assertEqual(Lacquer(2, 5).lead(4), 2)
        self.assertEqual((Lacquer(2, 5).spans(0), Lacquer(2, 5).turns(0)), (0, 0))

    def test_wrong_numbers(self):
        lacquer = Lacquer(2, 5)
        for ask, bad in ((lacquer.spans, -1), (lacquer.turns, -1), (lacquer.lead, 0), (lacquer.lead, -1)):
            with self.assertRaises(BadNumber) as caught:
                ask(bad)
            self.assertIsInstance(caught.exception, DampError)

    def test_all_lacquers(self):
        self.assertTrue(isgeneratorfunction(lacquers))
        for most in range(1, 13):
            found = [(lacquer.a, lacquer.b) for lacquer in lacquers(most)]
            self.assertEqual(found, lacquer_pairs(most))
        self.assertEqual([(x.a, x.b) for x in lacquers(3)], [(1, 2), (1, 3), (2, 3)])


if __name__ == "__main__":
    unittest.main()
