from itertools import permutations
import unittest

from dampspells.base.errors import BadKind, DampError
from dampspells.sky.climate import Climate
from dampspells.sky.weather import Weather
from tests.plain import is_of, most_damp, signs_up_to, some_kinds

SOME = some_kinds(6, 60, 4, 5)
SIGNS = signs_up_to(9)


def plain_list(kinds):
    """Point [7], word for word."""
    return tuple(sorted({(w, g) for w, g in kinds
                         if not any(v >= w and r <= g and (v, r) != (w, g) for v, r in kinds)}))


class Climates(unittest.TestCase):
    def refused(self, ask, *given):
        with self.assertRaises(BadKind) as caught:
            ask(*given)
        self.assertIsInstance(caught.exception, DampError)

    def test_plain_list(self):
        for kinds in SOME + some_kinds(7, 60, 16, 120, 40):
            given = list(kinds)
            climate = Climate(kinds)
            self.assertEqual(climate.kinds, plain_list(kinds))
            self.assertEqual(list(climate), list(climate.kinds))
            self.assertEqual(kinds, given)

    def test_needless_and_equal_kinds_in_any_order(self):
        self.assertEqual(Climate([(1, 3), (2, 3), (2, 7)]).kinds, ((2, 3),))
        for kinds in permutations([(1, 3), (2, 3), (2, 7), (4, 9), (4, 9)]):
            self.assertEqual(Climate(list(kinds)).kinds, ((2, 3), (4, 9)))
        self.assertEqual(Climate([(3, 3), (2, 3), (1, 3)]).kinds, ((3, 3),))
        self.assertEqual(Climate([(3, 1), (3, 2), (3, 3)]).kinds, ((3, 1),))
        self.assertEqual(Climate([(w, w) for w in range(16, 0, -1)]).kinds, tuple((w, w) for w in range(1, 17)))

    def test_later_changes_of_the_list(self):
        kinds = [(2, 5)]
        climate = Climate(kinds)
        kinds.append((4, 9))
        self.assertEqual(climate.kinds, ((2, 5),))

    def test_bounds_of_kinds(self):
        for kind in ((1, 1), (16, 1), (1, 120), (16, 120)):
            self.assertEqual(Climate([kind]).kinds, (kind,))
            self.assertEqual(Climate.single(*kind).kinds, (kind,))
        for kind in ((0, 1), (-1, 5), (17, 1), (1, 0), (1, -1), (1, 121), (17, 121), (0, 0)):
            self.refused(Climate, [kind])
            self.refused(Climate, [(2, 5), kind, (3, 6)])
            self.refused(Climate.single, *kind)

    def test_bounds_of_their_number(self):
        pairs = [(w, g) for w in range(1, 17) for g in range(1, 20)][:300]
        self.assertEqual(Climate(pairs).kinds, plain_list(pairs))
        self.assertEqual(Climate([(2, 5)] * 300).kinds, ((2, 5),))
        self.refused(Climate, pairs + [(2, 5)])
        self.refused(Climate, [(2, 5)] * 301)

    def test_need_and_peak(self):
        self.assertEqual((Climate([]).need, Climate([]).peak), (0, 0))
        self.assertEqual((Climate([(2, 5), (4, 9), (1, 100)]).need, Climate([(2, 5), (4, 9)]).peak), (9, 4))
        for kinds in SOME[1:]:
            plain = plain_list(kinds)
            self.assertEqual(Climate(kinds).need, max(g for w, g in plain))
            self.assertEqual(Climate(kinds).peak, max(w for w, g in plain))

    def test_longest(self):
        for kinds in SOME:
            for run in range(0, 8):
                self.assertEqual(Climate(kinds).longest(run), most_damp(kinds, run))
        climate = Climate([(2, 5), (4, 9)])
        self.assertEqual([climate.longest(run) for run in (0, 4, 5, 8, 9, 500)], [0, 0, 2, 2, 4, 4])

    def test_least_run(self):
        for kinds in SOME:
            for w in range(0, 7):
                runs = [g for v, g in kinds if v >= w]
                self.assertEqual(Climate(kinds).least_run(w), min(runs) if runs else None)

    def test_membership(self):
        for kinds in SOME[:25]:
            climate = Climate(kinds)
            for signs in SIGNS:
                self.assertIs(Weather.of_signs(signs) in climate, is_of(kinds, signs))

    def test_membership_at_the_end(self):
        climate = Climate([(2, 5)])
        self.assertIs(Weather([5, 2]) in climate, True)
        self.assertIs(Weather([5, 3]) in climate, False)
        self.assertIs(Weather([4, 1]) in climate, False)
        self.assertIs(Weather([6, 2, 4]) in climate, True)
        self.assertIs(Weather([5, 2, 4, 1, 9]) in climate, False)

    def test_equal(self):
        for one in SOME:
            for other in SOME:
                same = all(most_damp(one, run) == most_damp(other, run) for run in range(10))
                self.assertIs(Climate(one) == Climate(other), same)
        self.assertIs(Climate([(2, 5)]) != Climate([(2, 5), (1, 5)]), False)

    def test_join(self):
        for one in SOME:
            for other in SOME:
                join = Climate(one) | Climate(other)
                self.assertEqual(join.kinds, plain_list(one + other))

    def test_meet_has_the_common_weathers(self):
        for one in SOME:
            for other in SOME:
                meet = Climate(one) & Climate(other)
                least = [min(most_damp(one, run), most_damp(other, run)) for run in range(10)]
                self.assertEqual([meet.longest(run) for run in range(10)], least)
        self.assertEqual((Climate([(4, 2), (6, 9)]) & Climate([(5, 3)])).kinds, ((4, 3), (5, 9)))

    def test_join_and_meet_of_the_longest_plain_lists(self):
        one = Climate([(w, 2 * w) for w in range(1, 17)])
        other = Climate([(w, 2 * w + 1) for w in range(1, 17)])
        self.assertEqual((one | other).kinds, one.kinds)
        self.assertEqual((one & other).kinds, other.kinds)

    def test_dry(self):
        self.assertEqual(Climate.dry().kinds, ())
        self.assertIs(Climate.dry() == Climate([]), True)
        self.assertIs(Weather([200]) in Climate.dry(), True)
        self.assertIs(Weather([120, 1]) in Climate.dry(), False)


if __name__ == "__main__":
    unittest.main()
