from itertools import combinations
import unittest

from dampspells.base.errors import DampError, TooLarge
from dampspells.base.lacquer import Lacquer
from dampspells.compare.closure import leanest, widest
from dampspells.compare.hardness import sound_lacquers
from dampspells.lead.tops import greatest
from dampspells.sky.climate import Climate
from dampspells.sky.order import beneath
from tests.plain import is_sound_pair, lacquer_pairs, some_kinds

PAIRS = lacquer_pairs(12)
SOME = some_kinds(201, 40, 12, 60, 5) + [[(16, 1)], [(16, 120)], [(1, 1)], [(11, 1)], [(12, 120)], [(1, 120)]]
EIGHT = [(w, 3 * w) for w in range(1, 9)]
NINE = [(w, 3 * w) for w in range(1, 10)]


def sound_pairs(kinds):
    return [(a, b) for a, b in PAIRS if all(is_sound_pair(a, b, w, g) for w, g in kinds)]


class Widest(unittest.TestCase):
    def test_its_kinds_are_those_that_are_sound_for_all_sound_lacquers(self):
        for kinds in SOME:
            sound = sound_pairs(kinds)
            told = widest(Climate(kinds))
            self.assertIsInstance(told, Climate)
            for w in range(1, 17):
                for g in (1, 2, 3, 5, 8, 13, 21, 34, 55, 89, 110, 111, 112, 120):
                    common = all(is_sound_pair(a, b, w, g) for a, b in sound)
                    self.assertIs(w <= told.longest(g), common)

    def test_promises(self):
        for kinds in SOME:
            climate, told = Climate(kinds), widest(Climate(kinds))
            self.assertIs(beneath(climate, told), True)
            self.assertEqual(sound_pairs(told.kinds), sound_pairs(kinds))
            self.assertEqual(widest(told), told)

    def test_alike_climates_have_the_same_one(self):
        seen = set()
        for one in SOME:
            for other in SOME:
                alike = sound_pairs(one) == sound_pairs(other)
                self.assertIs(widest(Climate(one)) == widest(Climate(other)), alike)
                if alike:
                    self.assertIs(beneath(Climate(other), widest(Climate(one))), True)
                seen.add((alike, one == other))
        self.assertEqual(seen, {(True, True), (True, False), (False, False)})

    def test_of_greatest_climates(self):
        for a, b in PAIRS:
            self.assertEqual(widest(greatest(Lacquer(a, b))), greatest(Lacquer(a, b)))

    def test_by_hand(self):
        self.assertEqual(widest(Climate([])).kinds, ((1, 1),))
        self.assertEqual(widest(Climate([(1, 1)])).kinds, ((1, 1),))
        self.assertEqual(widest(Climate([(11, 1)])).kinds, ((11, 1),))
        self.assertEqual(widest(Climate([(12, 120)])).kinds, ((16, 1),))
        self.assertEqual(widest(Climate([(16, 1)])).kinds, ((16, 1),))


class Leanest(unittest.TestCase):
    def test_against_all_choices(self):
        sizes = set()
        for kinds in SOME + some_kinds(202, 30, 10, 30, 8) + [EIGHT]:
            plain_list = Climate(kinds).kinds
            alike = [list(chosen) for many in range(len(plain_list) + 1) for chosen in combinations(plain_list, many)
                     if sound_pairs(chosen) == sound_pairs(kinds)]
            self.assertEqual(leanest(Climate(kinds)), alike[0])
            sizes.add(len(alike[0]))
        self.assertTrue({0, 1, 2, 3} <= sizes, sizes)

    def test_by_hand(self):
        self.assertEqual(leanest(Climate([(1, 1), (2, 2)])), [(2, 2)])
        self.assertEqual(leanest(Climate([])), [])
        self.assertEqual(leanest(Climate([(1, 1)])), [])
        self.assertEqual(leanest(Climate([(16, 1)])), [(16, 1)])

    def test_the_first_of_several_choices(self):
        # No lacquer is sound for spells of 12 hours, so each of these kinds alone is enough.
        self.assertEqual(leanest(Climate([(12, 5), (13, 6), (14, 7)])), [(12, 5)])
        self.assertEqual(leanest(Climate([(1, 1), (13, 6), (14, 7)])), [(13, 6)])

    def test_too_large(self):
        self.assertEqual(len(Climate(NINE).kinds), 9)
        with self.assertRaises(TooLarge) as caught:
            leanest(Climate(NINE))
        self.assertIsInstance(caught.exception, DampError)
        # Needless kinds do not count.
        self.assertEqual(leanest(Climate(EIGHT + [(1, 3), (1, 30)])), leanest(Climate(EIGHT)))

    def test_lists_are_new(self):
        for kinds in ([], [(2, 2)], [(1, 1), (2, 2)]):
            climate = Climate(kinds)
            told = leanest(climate)
            leanest(climate).append(77)
            self.assertEqual(leanest(climate), told)


class Both(unittest.TestCase):
    def test_the_plain_counts_agree_with_the_sound_lacquers(self):
        for kinds in SOME:
            self.assertEqual(sound_lacquers(Climate(kinds)), sound_pairs(kinds))


if __name__ == "__main__":
    unittest.main()
