from itertools import combinations
import unittest

from dampspells.base.errors import DampError, TooLarge
from dampspells.base.lacquer import Lacquer
from dampspells.lead.verdict import bad_kinds
from dampspells.sky.climate import Climate
from dampspells.web.closed import shortest_spoiler
from dampspells.web.culprits import culprits
from dampspells.web.stepset import StepSet
from tests.plain import all_signs, is_of, lacquer_pairs, some_kinds, some_steps, spoils_steps

CASES = [(steps, kinds) for steps in some_steps(71, 30, 6) + [[2, 3, 5], [1, 2, 6], [3, 4, 6]]
         for kinds in some_kinds(72, 30, 5, 7, 3)] + [
             ([2, 3, 5], [(1, 1), (3, 3), (4, 8)]), ([2, 5], [(1, 3), (3, 5), (4, 6)]),
             ([2, 5], [(2, 3), (3, 5), (4, 6)]), ([3, 4, 6], [(1, 1), (3, 6), (4, 7)])]


def plain_culprits(steps, kinds):
    """Point [27], word for word, by the weathers of at most 10 hours."""
    short = [signs for hours in range(1, 11) for signs in all_signs(hours) if spoils_steps(steps, signs)]
    for many in range(1, len(kinds) + 1):
        for chosen in combinations(kinds, many):
            if any(is_of(chosen, signs) for signs in short):
                return list(chosen)
    return None


class Culprits(unittest.TestCase):
    def test_example(self):
        self.assertEqual(culprits(StepSet([2, 3, 5]), Climate([(1, 1), (2, 2)])), [(1, 1), (2, 2)])
        self.assertIsNone(culprits(StepSet([2, 3, 5]), Climate([(1, 1)])))
        self.assertIsNone(culprits(StepSet([2, 3, 5]), Climate([(2, 2)])))

    def test_against_all_choices(self):
        sizes = []
        for steps, kinds in CASES:
            climate = Climate(kinds)
            told = culprits(StepSet(steps), climate)
            found = [list(chosen) for many in range(1, len(climate.kinds) + 1)
                     for chosen in combinations(climate.kinds, many)
                     if shortest_spoiler(StepSet(steps), Climate(list(chosen))) is not None]
            self.assertEqual(told, found[0] if found else None)
            self.assertEqual(told is None, shortest_spoiler(StepSet(steps), climate) is None)
            sizes.append(len(told or []))
        self.assertEqual(set(sizes), {0, 1, 2, 3})

    def test_several_culprits(self):
        self.assertEqual(culprits(StepSet([2, 5]), Climate([(1, 3), (3, 5), (4, 6)])), [(1, 3), (3, 5), (4, 6)])
        self.assertEqual(culprits(StepSet([2, 5]), Climate([(2, 3), (3, 5), (4, 6)])), [(2, 3), (4, 6)])
        self.assertEqual(culprits(StepSet([3, 4, 6]), Climate([(1, 1), (3, 6), (4, 7)])), [(1, 1), (4, 7)])
        self.assertEqual(culprits(StepSet([2, 3, 5]), Climate([(1, 1), (3, 3), (4, 8)])), [(1, 1), (3, 3)])

    def test_against_all_short_weathers(self):
        for steps, kinds in (([2, 3, 5], [(1, 1), (2, 2)]), ([2, 3, 5], [(1, 1), (2, 2), (3, 3)]),
                             ([1, 3], [(1, 1), (2, 3)]), ([2, 4], [(1, 2), (2, 3), (3, 4)]), ([1, 2], [(1, 1)])):
            self.assertEqual(culprits(StepSet(steps), Climate(kinds)), plain_culprits(steps, kinds))

    def test_lacquers_have_one(self):
        for a, b in lacquer_pairs(6):
            for kinds in some_kinds(73, 25, 6, 8, 3):
                bad = bad_kinds(Lacquer(a, b), Climate(kinds))
                told = culprits(StepSet.of(Lacquer(a, b)), Climate(kinds))
                self.assertEqual(told, [bad[0][:2]] if bad else None)

    def test_no_kinds(self):
        self.assertIsNone(culprits(StepSet([1]), Climate([])))

    def test_lists_are_new(self):
        asked = (StepSet([1]), Climate([(1, 1)]))
        culprits(*asked).append(77)
        self.assertEqual(culprits(*asked), [(1, 1)])

    def test_too_large(self):
        four = Climate([(1, 1), (2, 2), (3, 3), (4, 4)])
        for steps, climate in (([7], Climate([])), ([1, 8], Climate([])), ([6], Climate([(1, 9)])),
                               ([6], Climate([(7, 1)])), ([1], four), ([6], four)):
            with self.assertRaises(TooLarge) as caught:
                culprits(StepSet(steps), climate)
            self.assertIsInstance(caught.exception, DampError)

    def test_at_the_bounds(self):
        self.assertEqual(culprits(StepSet([5, 6]), Climate([(1, 1), (3, 4), (6, 8)])), [(3, 4)])
        self.assertEqual(culprits(StepSet([6]), Climate([(6, 8), (1, 1), (2, 3), (2, 4)])), [(1, 1)])
        # Needless kinds do not count.
        self.assertEqual(culprits(StepSet([1]), Climate([(3, 3), (1, 3), (1, 30), (2, 4), (3, 20)])), [(3, 3)])


if __name__ == "__main__":
    unittest.main()
