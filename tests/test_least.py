import unittest

from dampspells.base.errors import BadKind, BadNumber, DampError
from dampspells.base.lacquer import Lacquer
from dampspells.mend.least import greatest_a, least_run, longest_spell
from dampspells.sky.climate import Climate
from tests.plain import is_sound_pair, lacquer_pairs, some_kinds

PAIRS = lacquer_pairs(12)


class Kinds(unittest.TestCase):
    def test_least_run(self):
        for a, b in PAIRS:
            for w in range(1, 17):
                sound = [g for g in range(1, 121) if is_sound_pair(a, b, w, g)]
                self.assertEqual(least_run(Lacquer(a, b), w), sound[0] if sound else None)

    def test_longest_spell(self):
        for a, b in PAIRS:
            for g in range(1, 121):
                sound = [w for w in range(1, 17) if is_sound_pair(a, b, w, g)]
                self.assertEqual(longest_spell(Lacquer(a, b), g), sound[-1])

    def test_by_hand(self):
        self.assertEqual([least_run(Lacquer(4, 5), w) for w in (1, 2, 4, 5, 16)], [1, 5, 13, None, None])
        self.assertEqual([longest_spell(Lacquer(4, 5), g) for g in (1, 4, 5, 12, 13, 120)], [1, 1, 2, 3, 4, 4])
        self.assertEqual(least_run(Lacquer(11, 12), 11), 111)
        self.assertEqual([longest_spell(Lacquer(11, 12), g) for g in (110, 111)], [10, 11])

    def test_wrong_numbers(self):
        for w in (0, 17, -1, 10 ** 9):
            with self.assertRaises(BadKind) as caught:
                least_run(Lacquer(4, 5), w)
            self.assertIsInstance(caught.exception, DampError)
        for g in (0, 121, -1, 10 ** 9):
            with self.assertRaises(BadKind):
                longest_spell(Lacquer(4, 5), g)


class GreatestA(unittest.TestCase):
    def test_against_all_lacquers(self):
        seen = set()
        for kinds in some_kinds(211, 60, 12, 60) + [[(11, 1)], [(12, 120)], [(1, 1)], [(11, 111)]]:
            for b in range(2, 13):
                sound = [a for a in range(1, b) if all(is_sound_pair(a, b, w, g) for w, g in kinds)]
                told = greatest_a(Climate(kinds), b)
                self.assertEqual(told, sound[-1] if sound else None)
                self.assertEqual(sound, list(range(1, len(sound) + 1)))
                seen.add(told)
        self.assertTrue({None, 1, 2, 11} <= seen, seen)

    def test_by_hand(self):
        climate = Climate([(2, 2)])
        self.assertEqual([greatest_a(climate, b) for b in (2, 3, 4, 12)], [None, 1, 2, 10])
        self.assertEqual([greatest_a(Climate([]), b) for b in (2, 12)], [1, 11])

    def test_wrong_numbers(self):
        for b in (1, 13, 0, -1, 10 ** 9):
            with self.assertRaises(BadNumber) as caught:
                greatest_a(Climate([(2, 2)]), b)
            self.assertIsInstance(caught.exception, DampError)


if __name__ == "__main__":
    unittest.main()
