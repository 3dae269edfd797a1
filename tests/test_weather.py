from inspect import isgeneratorfunction
import re
import unittest

from dampspells.base.errors import BadHour, BadWeather, DampError
from dampspells.sky.weather import Weather
from tests.plain import signs_up_to

SIGNS = signs_up_to(8)


def lengths_of(signs):
    return tuple(len(part) for part in re.findall(r"\.+|#+", signs))


class Weathers(unittest.TestCase):
    def refused(self, error, ask, *given):
        with self.assertRaises(error) as caught:
            ask(*given)
        self.assertIsInstance(caught.exception, DampError)

    def test_lengths_and_hours(self):
        weather = Weather([5, 2, 5])
        self.assertEqual((weather.lengths, weather.hours), ((5, 2, 5), 12))
        self.assertEqual(list(weather), [5, 2, 5])

    def test_later_changes_of_the_list(self):
        lengths = [5, 2]
        weather = Weather(lengths)
        lengths.append(3)
        lengths[0] = 9
        self.assertEqual((weather.lengths, weather.hours), ((5, 2), 7))

    def test_bounds(self):
        for lengths in ([1], [200], [1, 199], [1] * 200, [100, 100]):
            self.assertEqual(Weather(lengths).lengths, tuple(lengths))
        for lengths in ([], [0], [-1], [3, 0], [3, 0, 3], [3, -1, 5], [201], [1, 200], [1] * 201, [100, 101]):
            self.refused(BadWeather, Weather, lengths)

    def test_signs_there_and_back(self):
        for signs in SIGNS:
            weather = Weather.of_signs(signs)
            self.assertIsInstance(weather, Weather)
            self.assertEqual(weather.lengths, lengths_of(signs))
            self.assertEqual(weather.hours, len(signs))
            self.assertEqual(Weather(list(weather.lengths)).signs(), signs)

    def test_bounds_of_signs(self):
        for signs in ("." * 200, "." + "#" * 199, ".#" * 100):
            self.assertEqual(Weather.of_signs(signs).signs(), signs)
        for signs in ("", "#", "#.", "x", ".x", ".# ", ".#\n", ".#.?", "." * 201, ".#" * 100 + "."):
            self.refused(BadWeather, Weather.of_signs, signs)

    def test_equal(self):
        for one in SIGNS[:63]:
            for other in SIGNS[:63]:
                self.assertIs(Weather.of_signs(one) == Weather.of_signs(other), one == other)
        self.assertIs(Weather([2, 1]) != Weather([2, 1]), False)

    def test_sum(self):
        for one in SIGNS[:63]:
            for other in SIGNS[:63]:
                left, right = Weather.of_signs(one), Weather.of_signs(other)
                self.assertEqual((left + right).lengths, lengths_of(one + other))
                self.assertEqual((left.signs(), right.signs()), (one, other))
        self.assertEqual((Weather([3]) + Weather([2, 1])).lengths, (5, 1))
        self.assertEqual((Weather([150]) + Weather([50])).lengths, (200,))
        self.refused(BadWeather, lambda: Weather([150]) + Weather([51]))
        self.refused(BadWeather, lambda: Weather([150, 1]) + Weather([50]))

    def test_dry_hours(self):
        for signs in SIGNS:
            weather = Weather.of_signs(signs)
            for hour in range(1, len(signs) + 1):
                self.assertIs(weather.is_dry(hour), signs[hour - 1] == ".")
            for hour in (-1, 0, len(signs) + 1):
                self.refused(BadHour, weather.is_dry, hour)

    def test_first_hours(self):
        for signs in SIGNS:
            weather = Weather.of_signs(signs)
            for n in range(1, len(signs) + 1):
                self.assertEqual(weather.first(n).lengths, lengths_of(signs[:n]))
            for n in (-1, 0, len(signs) + 1):
                self.refused(BadHour, weather.first, n)

    def test_runs_and_spells(self):
        for signs in SIGNS:
            weather = Weather.of_signs(signs)
            runs = [(part.start() + 1, len(part[0])) for part in re.finditer(r"\.+", signs)]
            spells = [(part.start(2) + 1, len(part[2]), len(part[1])) for part in re.finditer(r"(\.+)(#+)", signs)]
            self.assertEqual(list(weather.runs()), runs)
            self.assertEqual(list(weather.spells()), spells)
        self.assertTrue(isgeneratorfunction(Weather.runs))
        self.assertTrue(isgeneratorfunction(Weather.spells))

    def test_back(self):
        for signs in SIGNS:
            weather = Weather.of_signs(signs)
            if signs[-1] == ".":
                self.assertEqual(weather.back().lengths, lengths_of(signs[::-1]))
            else:
                self.refused(BadWeather, weather.back)


if __name__ == "__main__":
    unittest.main()
