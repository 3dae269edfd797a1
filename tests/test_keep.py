from itertools import islice, product
from random import Random
import unittest

from dampspells.base.errors import BadNumber, BadRow, DampError
from dampspells.base.lacquer import Lacquer
from dampspells.sky.weather import Weather
from dampspells.told.keep import closed_ways, is_keeping, keeping_at, keepings, place_of, ways
from tests import plain
from tests.plain import all_signs, in_their_order, lacquer_pairs, rows, signs_up_to

SIGNS = signs_up_to(8)
PAIRS = lacquer_pairs(4) + [(3, 5), (2, 7), (11, 12)]
EXAMPLE = (Lacquer(2, 3), Weather([5]))
SPOILT = (Lacquer(4, 5), Weather([4, 2, 3]))
LONG = Weather([40, 1, 30, 1, 60, 1, 67])


class Keepings(unittest.TestCase):
    def test_example(self):
        self.assertEqual(list(keepings(*EXAMPLE)), [[1, 3, 5], [1, 3], [1, 4]])

    def test_against_all_rows_of_coats(self):
        for a, b in PAIRS:
            for signs in SIGNS:
                lacquer, weather = Lacquer(a, b), Weather.of_signs(signs)
                kept = in_their_order(plain.keepings(a, b, signs))
                self.assertEqual(list(keepings(lacquer, weather)), kept)
                self.assertEqual(ways(lacquer, weather), len(kept))
                for place, row in enumerate(kept):
                    self.assertEqual(keeping_at(lacquer, weather, place), row)
                    self.assertEqual(place_of(lacquer, weather, row), place)
                for place in (-1, -len(kept), len(kept), len(kept) + 1):
                    if place not in range(len(kept)):
                        with self.assertRaises(BadNumber):
                            keeping_at(lacquer, weather, place)

    def test_closed_ways(self):
        for a, b in PAIRS:
            for signs in SIGNS:
                lacquer, weather = Lacquer(a, b), Weather.of_signs(signs)
                many = sum(row[-1] == len(signs) for row in rows(a, b, signs))
                self.assertEqual(closed_ways(lacquer, weather), many)
                if signs[-1] == ".":
                    self.assertEqual(closed_ways(lacquer, weather.back()), many)

    def test_all_lists_of_hours(self):
        for a, b in PAIRS:
            for signs in all_signs(4) + ["."]:
                kept = plain.keepings(a, b, signs)
                for many in range(0, 5):
                    for hours in product(range(-1, 6), repeat=many):
                        told = is_keeping(Lacquer(a, b), Weather.of_signs(signs), list(hours))
                        self.assertIs(told, list(hours) in kept)

    def test_any_integers(self):
        lacquer, weather = EXAMPLE
        for row in ([], [0], [2], [1, 3, 5, 8], [1, 3, 6], [1, 10 ** 30], [-10 ** 30], [1, -4], [1, 3, 3], [1], [3, 5],
                    [1, 5], [1, 2, 4], [0, 1, 3]):
            with self.subTest(row):
                given = list(row)
                self.assertIs(is_keeping(lacquer, weather, row), False)
                with self.assertRaises(BadRow) as caught:
                    place_of(lacquer, weather, row)
                self.assertIsInstance(caught.exception, DampError)
                self.assertEqual(row, given)

    def test_damp_hours_do_not_count(self):
        lacquer, weather = Lacquer(2, 3), Weather([2, 1, 2])
        self.assertIs(is_keeping(lacquer, weather, [1, 4]), True)
        self.assertIs(is_keeping(lacquer, weather, [1, 3]), False)
        self.assertIs(is_keeping(lacquer, weather, [1, 3, 5]), False)

    def test_one_hour(self):
        for a, b in PAIRS:
            lacquer, weather = Lacquer(a, b), Weather([1])
            self.assertEqual(list(keepings(lacquer, weather)), [[1]])
            self.assertEqual((ways(lacquer, weather), closed_ways(lacquer, weather)), (1, 1))
            self.assertEqual(keeping_at(lacquer, weather, 0), [1])
            self.assertEqual(place_of(lacquer, weather, [1]), 0)

    def test_spoilt_weathers(self):
        self.assertEqual(list(keepings(*SPOILT)), [])
        self.assertEqual(ways(*SPOILT), 0)
        self.assertEqual(closed_ways(*SPOILT), 0)
        for place in (-1, 0, 1):
            with self.assertRaises(BadNumber) as caught:
                keeping_at(*SPOILT, place)
            self.assertIsInstance(caught.exception, DampError)
        with self.assertRaises(BadRow):
            place_of(*SPOILT, [1])

    def test_the_end_may_be_damp(self):
        self.assertEqual(list(keepings(Lacquer(4, 5), Weather([1, 4]))), [[1]])
        self.assertEqual(closed_ways(Lacquer(4, 5), Weather([5, 1])), 0)
        self.assertEqual(closed_ways(Lacquer(4, 5), Weather([5])), 1)

    def test_lists_are_new(self):
        rows_told = list(keepings(*EXAMPLE))
        for row in rows_told:
            row.append(77)
        self.assertEqual(rows_told, [[1, 3, 5, 77], [1, 3, 77], [1, 4, 77]])
        found = []
        for row in keepings(Lacquer(1, 2), Weather([6])):
            found.append(list(row))
            row.clear()
        self.assertEqual(found, list(keepings(Lacquer(1, 2), Weather([6]))))
        keeping_at(*EXAMPLE, 0).append(77)
        self.assertEqual(keeping_at(*EXAMPLE, 0), [1, 3, 5])


class LongWeathers(unittest.TestCase):
    def test_counts(self):
        fibonacci = [1, 1]
        while len(fibonacci) < 201:
            fibonacci.append(fibonacci[-1] + fibonacci[-2])
        self.assertEqual(closed_ways(Lacquer(1, 2), Weather([200])), fibonacci[199])
        # The last coat is in the last hour or in the one before.
        self.assertEqual(ways(Lacquer(1, 2), Weather([200])), fibonacci[199] + fibonacci[198])

    def test_places(self):
        dice = Random(31)
        for a, b in ((1, 2), (1, 12), (4, 5), (2, 7)):
            lacquer = Lacquer(a, b)
            for weather in (Weather([200]), LONG):
                many = ways(lacquer, weather)
                self.assertGreater(many, 1000)
                for place in [0, 1, many // 2, many - 1] + [dice.randrange(many) for _ in range(6)]:
                    row = keeping_at(lacquer, weather, place)
                    self.assertIs(is_keeping(lacquer, weather, row), True)
                    self.assertEqual(place_of(lacquer, weather, row), place)
                for place in (-1, many):
                    with self.assertRaises(BadNumber):
                        keeping_at(lacquer, weather, place)

    def test_the_first_of_very_many(self):
        for a, b in ((1, 2), (1, 12), (4, 5)):
            for weather in (Weather([200]), LONG):
                first = list(islice(keepings(Lacquer(a, b), weather), 50))
                self.assertEqual(first, [keeping_at(Lacquer(a, b), weather, place) for place in range(50)])


if __name__ == "__main__":
    unittest.main()
