from itertools import product
import unittest

from dampspells.base.errors import BadRow, DampError, Spoilt
from dampspells.base.lacquer import Lacquer
from dampspells.sky.weather import Weather
from dampspells.told.blend import later, sooner
from dampspells.told.keep import is_keeping, keeping_at, ways
from dampspells.told.reach import spoilt_hour
from dampspells.told.span import earliest, earliest_with, fewest_most, latest, latest_with
from tests.plain import keepings, lacquer_pairs, signs_up_to

SIGNS = signs_up_to(8)
PAIRS = lacquer_pairs(4) + [(3, 5), (2, 7), (1, 6), (11, 12)]
EXAMPLE = (Lacquer(2, 3), Weather([5]))
SPOILT = (Lacquer(4, 5), Weather([4, 2, 3]))
LONG = Weather([40, 1, 30, 1, 60, 1, 67])


def by_index(choose, kept):
    """At each index the hour that is chosen among those of all rows that have one."""
    most = max(len(row) for row in kept)
    return [choose(row[k] for row in kept if len(row) > k) for k in range(most)]


class Spans(unittest.TestCase):
    def test_example(self):
        self.assertEqual(earliest(*EXAMPLE), [1, 3, 5])
        self.assertEqual(latest(*EXAMPLE), [1, 4])
        self.assertEqual(fewest_most(*EXAMPLE), (1, 2))
        self.assertEqual(earliest_with(*EXAMPLE, 1), [1, 3])
        self.assertEqual(latest_with(*EXAMPLE, 1), [1, 4])
        self.assertEqual(earliest_with(*EXAMPLE, 2), [1, 3, 5])
        self.assertEqual(latest_with(*EXAMPLE, 2), [1, 3, 5])

    def test_against_all_keepings(self):
        for a, b in PAIRS:
            for signs in SIGNS:
                kept = keepings(a, b, signs)
                if kept:
                    self.check(Lacquer(a, b), Weather.of_signs(signs), kept)

    def check(self, lacquer, weather, kept):
        fewest, most = min(len(row) for row in kept) - 1, max(len(row) for row in kept) - 1
        self.assertEqual(fewest_most(lacquer, weather), (fewest, most))
        self.assertEqual(earliest(lacquer, weather), by_index(min, kept))
        self.assertEqual(latest(lacquer, weather), by_index(max, kept)[:fewest + 1])
        for n in range(-1, most + 3):
            rows = [row for row in kept if len(row) == n + 1]
            self.assertEqual(bool(rows), fewest <= n <= most)
            self.assertEqual(earliest_with(lacquer, weather, n), by_index(min, rows) if rows else None)
            self.assertEqual(latest_with(lacquer, weather, n), by_index(max, rows) if rows else None)

    def test_spoilt_weathers(self):
        for a, b in PAIRS:
            for signs in SIGNS:
                if not keepings(a, b, signs):
                    lacquer, weather = Lacquer(a, b), Weather.of_signs(signs)
                    for ask in (earliest, latest, fewest_most):
                        self.refused(ask, lacquer, weather)
                    for ask, n in product((earliest_with, latest_with), (-1, 0, 1, 500)):
                        self.refused(ask, lacquer, weather, n)

    def refused(self, ask, lacquer, weather, *numbers):
        with self.assertRaises(Spoilt) as caught:
            ask(lacquer, weather, *numbers)
        self.assertEqual(caught.exception.hour, spoilt_hour(lacquer, weather))
        self.assertIsInstance(caught.exception, DampError)

    def test_spoilt_hour(self):
        with self.assertRaises(Spoilt) as caught:
            earliest(*SPOILT)
        self.assertEqual(caught.exception.hour, 6)

    def test_one_hour(self):
        for lacquer in (Lacquer(1, 2), Lacquer(11, 12)):
            self.assertEqual(earliest(lacquer, Weather([1])), [1])
            self.assertEqual(latest(lacquer, Weather([1])), [1])
            self.assertEqual(fewest_most(lacquer, Weather([1])), (0, 0))
            self.assertEqual(earliest_with(lacquer, Weather([1]), 0), [1])
            self.assertIsNone(latest_with(lacquer, Weather([1]), 1))

    def test_long_weathers(self):
        self.assertEqual(earliest(Lacquer(1, 12), Weather([200])), list(range(1, 201)))
        self.assertEqual(latest(Lacquer(1, 12), Weather([200])), list(range(1, 201, 12)))
        self.assertEqual(fewest_most(Lacquer(1, 12), Weather([200])), (16, 199))
        for a, b in ((1, 2), (1, 12), (4, 5), (2, 7)):
            lacquer = Lacquer(a, b)
            for weather in (Weather([200]), LONG):
                # The first and the last one in the order of the keepings.
                self.assertEqual(earliest(lacquer, weather), keeping_at(lacquer, weather, 0))
                self.assertEqual(latest(lacquer, weather), keeping_at(lacquer, weather, ways(lacquer, weather) - 1))
                fewest, most = fewest_most(lacquer, weather)
                for n in (fewest, (fewest + most) // 2, most):
                    first, last = earliest_with(lacquer, weather, n), latest_with(lacquer, weather, n)
                    self.assertEqual((len(first), len(last)), (n + 1, n + 1))
                    self.assertTrue(all(x <= y for x, y in zip(first, last)))
                    self.assertTrue(is_keeping(lacquer, weather, first) and is_keeping(lacquer, weather, last))
                for n in (fewest - 1, most + 1):
                    self.assertIsNone(earliest_with(lacquer, weather, n))
                    self.assertIsNone(latest_with(lacquer, weather, n))

    def test_lists_are_new(self):
        earliest(*EXAMPLE).append(77)
        latest_with(*EXAMPLE, 1).append(77)
        self.assertEqual(earliest(*EXAMPLE), [1, 3, 5])
        self.assertEqual(latest_with(*EXAMPLE, 1), [1, 4])


class Blends(unittest.TestCase):
    def test_by_hand(self):
        self.assertEqual(sooner([1, 5, 9], [1, 4, 12]), [1, 4, 9])
        self.assertEqual(later([1, 5, 9], [1, 4, 12]), [1, 5, 12])
        self.assertEqual(sooner([], []), [])
        self.assertEqual(later([], []), [])
        self.assertEqual(sooner([-3], [10 ** 20]), [-3])

    def test_blends_of_keepings_are_keepings(self):
        for a, b in PAIRS:
            for signs in SIGNS[-40:]:
                kept = keepings(a, b, signs)
                for one, other in product(kept[::2], kept[::3]):
                    if len(one) == len(other):
                        for ask in (sooner, later):
                            blended = ask(one, other)
                            self.assertTrue(is_keeping(Lacquer(a, b), Weather.of_signs(signs), blended))

    def test_different_lengths(self):
        for one, other in (([], [1]), ([1], []), ([1, 4], [1]), ([1], [1, 4, 8])):
            for ask in (sooner, later):
                with self.assertRaises(BadRow) as caught:
                    ask(one, other)
                self.assertIsInstance(caught.exception, DampError)

    def test_nothing_is_changed(self):
        one, other = [1, 5], [1, 4]
        for ask in (sooner, later):
            ask(one, other).append(77)
            ask(one, one).append(77)
        self.assertEqual((one, other), ([1, 5], [1, 4]))


if __name__ == "__main__":
    unittest.main()
