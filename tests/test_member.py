import unittest

from dampspells.base.errors import BadWeather, DampError, Strange
from dampspells.sky.climate import Climate
from dampspells.sky.member import breach, fullest, least_climate, next_signs
from dampspells.sky.order import beneath
from dampspells.sky.weather import Weather
from tests.plain import is_of, most_damp, signs_up_to, some_kinds, spells

SOME = some_kinds(8, 25, 4, 5)
SIGNS = signs_up_to(9)


class Members(unittest.TestCase):
    def test_breach(self):
        for kinds in SOME:
            for signs in SIGNS:
                hours = [h for h in range(1, len(signs) + 1) if not is_of(kinds, signs[:h])]
                told = breach(Climate(kinds), Weather.of_signs(signs))
                self.assertEqual(told, min(hours) if hours else None)

    def test_examples_of_breach(self):
        self.assertEqual(breach(Climate([(2, 5)]), Weather([5, 3, 1])), 8)
        self.assertEqual(breach(Climate([(2, 5)]), Weather([4, 3, 1])), 5)
        self.assertEqual(breach(Climate([]), Weather([199, 1])), 200)
        self.assertIsNone(breach(Climate([]), Weather([200])))
        self.assertIsNone(breach(Climate([(2, 5)]), Weather([5, 2])))

    def test_next_signs(self):
        for kinds in SOME:
            climate = Climate(kinds)
            for signs in SIGNS:
                weather = Weather.of_signs(signs)
                if is_of(kinds, signs):
                    self.assertEqual(next_signs(climate, weather), [s for s in ".#" if is_of(kinds, signs + s)])
                else:
                    with self.assertRaises(Strange) as caught:
                        next_signs(climate, weather)
                    self.assertEqual(caught.exception.hour, breach(climate, weather))
                    self.assertIsInstance(caught.exception, DampError)

    def test_next_signs_after_200_hours(self):
        climate = Climate([(2, 5)])
        self.assertEqual(next_signs(climate, Weather([200])), [".", "#"])
        self.assertEqual(next_signs(climate, Weather([199, 1])), [".", "#"])
        self.assertEqual(next_signs(climate, Weather([198, 2])), ["."])
        self.assertEqual(next_signs(Climate([]), Weather([200])), ["."])

    def test_next_signs_are_new(self):
        climate, weather = Climate([(2, 5)]), Weather([5])
        next_signs(climate, weather).clear()
        self.assertEqual(next_signs(climate, weather), [".", "#"])

    def test_fullest(self):
        climate = Climate([(2, 5), (4, 9)])
        self.assertEqual(fullest(climate, [5, 9, 6, 1]).lengths, (5, 2, 9, 4, 6, 2, 1))
        self.assertEqual(fullest(climate, [3]).lengths, (3,))
        self.assertEqual(fullest(Climate([]), [200]).lengths, (200,))
        runs = [8, 12, 4]
        weather = fullest(climate, runs)
        self.assertEqual(runs, [8, 12, 4])
        self.assertEqual(spells(weather.signs()), [(run, most_damp(climate.kinds, run)) for run in runs[:-1]])
        self.assertEqual(fullest(climate, [9, 187]).hours, 200)

    def test_wrong_runs(self):
        climate = Climate([(2, 5)])
        wrong = ([], [0], [-1], [5, 0], [5, 0, 5], [-1, 5], [0, 5], [4, 5], [5, 4, 5], [201], [5, 194])
        for runs in wrong:
            with self.subTest(runs), self.assertRaises(BadWeather):
                fullest(climate, runs)
        with self.assertRaises(BadWeather):
            fullest(Climate([]), [5, 5])

    def test_least_climate_of_one_weather(self):
        for signs in SIGNS:
            weather = Weather.of_signs(signs)
            least = least_climate(weather)
            self.assertIn(weather, least)
            for kinds in SOME:
                self.assertIs(beneath(least, Climate(kinds)), is_of(kinds, signs))

    def test_least_climate_of_several_weathers(self):
        self.assertEqual(least_climate().kinds, ())
        self.assertEqual(least_climate(Weather([9]), Weather([200])).kinds, ())
        self.assertEqual(least_climate(Weather([5, 2, 5]), Weather([9, 4, 1, 1])).kinds, ((1, 1), (2, 5), (4, 9)))
        self.assertEqual(least_climate(Weather([9, 4]), Weather([3, 4])).kinds, ((4, 3),))

    def test_least_climate_of_long_runs_and_spells(self):
        self.assertEqual(least_climate(Weather([120, 1])).kinds, ((1, 120),))
        self.assertEqual(least_climate(Weather([121, 1])).kinds, ((1, 120),))
        self.assertEqual(least_climate(Weather([184, 16])).kinds, ((16, 120),))
        self.assertEqual(least_climate(Weather([1, 16])).kinds, ((16, 1),))
        self.assertIsNone(least_climate(Weather([1, 17])))
        self.assertIsNone(least_climate(Weather([5, 2]), Weather([1, 1, 9, 17, 2]), Weather([4])))

    def test_least_climate_of_many_spells(self):
        many = [Weather([run, 1, run + 1, 2, 3]) for run in range(1, 90)]
        self.assertEqual(least_climate(*many, *many).kinds, ((1, 1), (2, 2)))
        self.assertEqual(least_climate(Weather([1] * 200), *[Weather([9, w]) for w in range(1, 17)] * 20).kinds,
                         ((1, 1), (16, 9)))


if __name__ == "__main__":
    unittest.main()
