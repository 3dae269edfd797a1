from itertools import combinations
import unittest

from dampspells.base.errors import BadNumber, DampError
from dampspells.base.lacquer import Lacquer
from dampspells.sky.weather import Weather
from dampspells.told.reach import blame, blame_holds, live, possible, reached, spoilt_hour
from tests.plain import all_signs, dry_hours, is_spoilt, keepings, lacquer_pairs, rows, signs_up_to

SIGNS = signs_up_to(8)
PAIRS = lacquer_pairs(5) + [(2, 7), (6, 8), (11, 12)]
EXAMPLE = (Lacquer(4, 5), Weather([4, 2, 3]))


def is_blame(a, b, signs, hours):
    """Point [22], word for word; the hours ascend strictly."""
    dry = dry_hours(signs)
    if not set(hours) <= set(dry) or 1 not in hours:
        return False
    closed = all(q in hours for p in hours for q in dry if p + a <= q <= p + b)
    return closed and max(hours) + b <= len(signs)


class Reaching(unittest.TestCase):
    def test_against_all_rows_of_coats(self):
        for a, b in PAIRS:
            lacquer = Lacquer(a, b)
            for signs in SIGNS:
                weather = Weather.of_signs(signs)
                all_rows, kept = rows(a, b, signs), keepings(a, b, signs)
                hours = sorted({hour for row in all_rows for hour in row})
                self.assertEqual(reached(lacquer, weather), hours)
                self.assertEqual(live(lacquer, weather), sorted({hour for row in kept for hour in row}))
                for n in range(0, 9):
                    coats = sorted({row[n] for row in all_rows if len(row) > n})
                    self.assertEqual(possible(lacquer, weather, n), coats)
                spoilt = [h for h in range(1, len(signs) + 1) if is_spoilt(a, b, signs[:h])]
                self.assertEqual(spoilt_hour(lacquer, weather), min(spoilt, default=None))
                self.assertEqual(blame(lacquer, weather), None if kept else hours)

    def test_spoilt_weathers(self):
        self.assertEqual(spoilt_hour(*EXAMPLE), 6)
        self.assertEqual(live(*EXAMPLE), [])
        self.assertEqual(reached(*EXAMPLE), [1])
        self.assertEqual(blame(*EXAMPLE), [1])
        self.assertEqual(possible(*EXAMPLE, 0), [1])
        self.assertEqual(possible(*EXAMPLE, 1), [])

    def test_edges_of_the_told_hours(self):
        lacquer = Lacquer(4, 5)
        self.assertIsNone(spoilt_hour(lacquer, Weather([1, 4])))
        self.assertEqual(spoilt_hour(lacquer, Weather([1, 5])), 6)
        self.assertEqual(spoilt_hour(lacquer, Weather([1, 5, 3])), 6)
        self.assertIsNone(spoilt_hour(lacquer, Weather([1])))
        self.assertEqual(reached(lacquer, Weather([1])), [1])
        self.assertEqual(live(lacquer, Weather([1, 4, 1])), [1, 6])

    def test_long_weathers(self):
        self.assertEqual(reached(Lacquer(1, 2), Weather([200])), list(range(1, 201)))
        self.assertEqual(live(Lacquer(1, 12), Weather([200])), list(range(1, 201)))
        self.assertEqual(possible(Lacquer(1, 2), Weather([200]), 199), [200])
        self.assertEqual(possible(Lacquer(1, 2), Weather([200]), 10 ** 12), [])
        self.assertEqual(possible(Lacquer(2, 3), Weather([200]), 66), list(range(133, 200)))
        self.assertEqual(spoilt_hour(Lacquer(1, 2), Weather([198, 2])), 200)

    def test_lists_are_new(self):
        for ask in (reached, blame, live):
            ask(*EXAMPLE).append(77)
            self.assertNotIn(77, ask(*EXAMPLE))
        possible(*EXAMPLE, 0).append(77)
        self.assertEqual(possible(*EXAMPLE, 0), [1])

    def test_negative_coats(self):
        with self.assertRaises(BadNumber) as caught:
            possible(*EXAMPLE, -1)
        self.assertIsInstance(caught.exception, DampError)


class Blames(unittest.TestCase):
    def test_all_lists_of_hours(self):
        for a, b in PAIRS:
            for signs in all_signs(5) + all_signs(6):
                weather = Weather.of_signs(signs)
                for many in range(0, 6):
                    for hours in combinations(range(0, len(signs) + 2), many):
                        told = blame_holds(Lacquer(a, b), weather, list(hours))
                        self.assertIs(told, is_blame(a, b, signs, hours))

    def test_a_blame_holds(self):
        for a, b in PAIRS:
            for signs in SIGNS:
                lacquer, weather = Lacquer(a, b), Weather.of_signs(signs)
                told = blame(lacquer, weather)
                if told is None:
                    self.assertIs(blame_holds(lacquer, weather, reached(lacquer, weather)), False)
                else:
                    self.assertIs(blame_holds(lacquer, weather, told), True)

    def test_by_hand(self):
        lacquer, weather = Lacquer(2, 3), Weather([5, 3, 2])
        self.assertEqual(blame(lacquer, weather), [1, 3, 4, 5])
        for hours, holds in (([1, 3, 4, 5], True), ([1, 2, 3, 4, 5], True), ([], False), ([3, 4, 5], False),
                             ([1, 3, 5, 4], False), ([5, 4, 3, 1], False), ([1, 1, 3, 4, 5], False),
                             ([1, 3, 4, 5, 5], False), ([1, 3, 4, 5, 6], False), ([1, 3, 4, 5, 9], False),
                             ([1, 3, 4], False), ([1, 4, 5], False), ([0, 1, 3, 4, 5], False),
                             ([-4, 1, 3, 4, 5], False), ([1, 3, 4, 5, 99], False), ([1], False)):
            with self.subTest(hours):
                given = list(hours)
                self.assertIs(blame_holds(lacquer, weather, hours), holds)
                self.assertEqual(hours, given)


if __name__ == "__main__":
    unittest.main()
