import unittest

from dampspells.base.errors import BadNumber, DampError
from dampspells.base.lacquer import Lacquer
from dampspells.compare.hardness import least_b, no_harder, parting_lacquer, sound_lacquers
from dampspells.lead.verdict import is_sound
from dampspells.sky.climate import Climate
from tests.plain import is_sound_pair, lacquer_pairs, some_kinds

PAIRS = lacquer_pairs(12)
SOME = some_kinds(131, 40, 12, 60) + [[(16, 1)], [(16, 120)], [(1, 1)], [(11, 1)], [(12, 120)], [(1, 120)]]


def sound_pairs(kinds):
    return [(a, b) for a, b in PAIRS if all(is_sound_pair(a, b, w, g) for w, g in kinds)]


class Hardness(unittest.TestCase):
    def test_least_b(self):
        self.assertEqual(least_b(Climate([(2, 2)]), 2), 4)
        for kinds in SOME:
            for a in range(1, 12):
                least = next(b for b in range(a + 1, 100) if all(is_sound_pair(a, b, w, g) for w, g in kinds))
                self.assertEqual(least_b(Climate(kinds), a), least)

    def test_least_b_may_be_greater_than_12(self):
        self.assertEqual(least_b(Climate([(16, 120)]), 11), 17)
        self.assertEqual(least_b(Climate([(16, 1)]), 11), 27)
        self.assertEqual(least_b(Climate([(16, 1)]), 1), 17)
        self.assertEqual(least_b(Climate([]), 11), 12)
        self.assertEqual(least_b(Climate([]), 1), 2)

    def test_wrong_numbers(self):
        for a in (0, 12, -1, 13, 10 ** 9):
            with self.assertRaises(BadNumber) as caught:
                least_b(Climate([(2, 2)]), a)
            self.assertIsInstance(caught.exception, DampError)

    def test_sound_lacquers(self):
        self.assertEqual(sound_lacquers(Climate([])), PAIRS)
        self.assertEqual(sound_lacquers(Climate([(12, 120)])), [])
        self.assertEqual(sound_lacquers(Climate([(11, 1)])), [(1, 12)])
        for kinds in SOME:
            pairs = sound_lacquers(Climate(kinds))
            self.assertEqual(pairs, sound_pairs(kinds))
            self.assertEqual(pairs, [(a, b) for a, b in PAIRS if is_sound(Lacquer(a, b), Climate(kinds))])

    def test_comparisons(self):
        seen = []
        for one in SOME:
            for other in SOME:
                pairs, others = sound_pairs(one), sound_pairs(other)
                told = no_harder(Climate(one), Climate(other))
                self.assertIs(told, set(others) <= set(pairs))
                parting = [pair for pair in PAIRS if (pair in pairs) != (pair in others)]
                first = parting_lacquer(Climate(one), Climate(other))
                self.assertEqual(first, parting[0] if parting else None)
                seen.append((told, first is None))
        self.assertEqual(set(seen), {(True, True), (True, False), (False, False)})

    def test_no_sound_lacquers(self):
        none, other = Climate([(16, 1)]), Climate([(13, 50)])
        self.assertIs(no_harder(none, other), True)
        self.assertIs(no_harder(other, none), True)
        self.assertIsNone(parting_lacquer(none, other))
        self.assertIs(no_harder(none, Climate([])), False)
        self.assertIs(no_harder(Climate([]), none), True)
        self.assertEqual(parting_lacquer(none, Climate([])), (1, 2))

    def test_lists_are_new(self):
        sound_lacquers(Climate([])).clear()
        self.assertEqual(len(sound_lacquers(Climate([]))), 66)


if __name__ == "__main__":
    unittest.main()
