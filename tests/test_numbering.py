from itertools import islice
from random import Random
import unittest

from dampspells.base.errors import BadNumber, DampError, Strange
from dampspells.far.count import weathers
from dampspells.far.numbering import all_weathers, weather_at, weather_place
from dampspells.sky.climate import Climate
from dampspells.sky.weather import Weather
from tests.plain import signs_of, some_kinds

SOME = some_kinds(241, 25, 6, 8) + [[(16, 1)], [(1, 120)]]
LARGE = [[(16, 1)], [(1, 1)], [(2, 5), (4, 9)], [(w, 100 + w) for w in range(1, 17)], [(3, 120)]]


class Numbering(unittest.TestCase):
    def test_against_all_weathers(self):
        for kinds in SOME:
            climate = Climate(kinds)
            for n in (1, 2, 3, 6, 10):
                signs = signs_of(kinds, n)
                self.assertEqual(list(all_weathers(climate, n)), signs)
                for place, text in enumerate(signs):
                    told = weather_at(climate, n, place)
                    self.assertIsInstance(told, Weather)
                    self.assertEqual(told.signs(), text)
                    self.assertEqual(weather_place(climate, told), place)

    def test_many_hours(self):
        dice = Random(242)
        for kinds in LARGE:
            climate = Climate(kinds)
            for n in (120, 121, 199, 200):
                many = weathers(climate, n)
                self.assertEqual(weather_at(climate, n, 0).lengths, (n,))
                for place in {0, many - 1, many // 2, dice.randrange(many), dice.randrange(many)}:
                    weather = weather_at(climate, n, place)
                    self.assertIn(weather, climate)
                    self.assertEqual(weather.hours, n)
                    self.assertEqual(weather_place(climate, weather), place)
                with self.assertRaises(BadNumber):
                    weather_at(climate, n, many)

    def test_the_last_one(self):
        self.assertEqual(weather_at(Climate([(1, 1)]), 200, weathers(Climate([(1, 1)]), 200) - 1).lengths, (1,) * 200)
        self.assertEqual(weather_place(Climate([(16, 1)]), Weather([1, 16, 1, 16])), weathers(Climate([(16, 1)]), 34) - 1)
        self.assertEqual(weather_place(Climate([(1, 120)]), Weather([200])), 0)
        self.assertEqual(weather_place(Climate([(1, 120)]), Weather([120, 1, 79])), 80)

    def test_the_first_of_very_many(self):
        for kinds in LARGE:
            climate = Climate(kinds)
            first = list(islice(all_weathers(climate, 200), 60))
            self.assertEqual(first, [weather_at(climate, 200, place).signs() for place in range(60)])

    def test_one_weather(self):
        for n in (1, 200):
            self.assertEqual(list(all_weathers(Climate([]), n)), ["." * n])
            self.assertEqual(weather_at(Climate([]), n, 0).lengths, (n,))
            with self.assertRaises(BadNumber):
                weather_at(Climate([]), n, 1)

    def test_wrong_numbers_of_hours(self):
        for n in (0, 201, -1, 10 ** 9):
            with self.assertRaises(BadNumber) as caught:
                list(all_weathers(Climate([(2, 5)]), n))
            self.assertIsInstance(caught.exception, DampError)
            for place in (0, -1):
                with self.assertRaises(BadNumber) as caught:
                    weather_at(Climate([(2, 5)]), n, place)
                self.assertIsInstance(caught.exception, DampError)

    def test_wrong_places(self):
        for kinds in SOME:
            climate = Climate(kinds)
            for n in (1, 5, 9):
                many = len(signs_of(kinds, n))
                for place in (-1, -many, many, many + 1, 10 ** 60):
                    with self.assertRaises(BadNumber):
                        weather_at(climate, n, place)

    def test_weathers_that_are_not_of_the_climate(self):
        climate = Climate([(2, 5), (4, 9)])
        for lengths, hour in (([5, 3, 1], 8), ([4, 1], 5), ([9, 4, 4, 1, 9], 18), ([9, 5], 14)):
            with self.assertRaises(Strange) as caught:
                weather_place(climate, Weather(lengths))
            self.assertEqual(caught.exception.hour, hour)
            self.assertIsInstance(caught.exception, DampError)


if __name__ == "__main__":
    unittest.main()
