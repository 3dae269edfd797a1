from random import Random
import unittest

from dampspells.base.errors import BadHour, BadWeather, DampError
from dampspells.far.longweather import LongWeather
from dampspells.sky.climate import Climate
from dampspells.sky.member import breach
from dampspells.sky.weather import Weather
from tests.plain import is_of, long_signs, most_damp, some_kinds, some_long, spells

EXAMPLE = LongWeather(".....##", ".....##")


def plain_breach(kinds, signs):
    """The least n for which the first n hours are not of the climate, or None."""
    return next((n for n in range(1, len(signs) + 1) if not is_of(kinds, signs[:n])), None)


class Texts(unittest.TestCase):
    def test_attributes(self):
        self.assertEqual((LongWeather("..#", "#.").beginning, LongWeather("..#", "#.").again), ("..#", "#."))

    def test_bounds(self):
        for many in (1, 60):
            weather = LongWeather("." * many, "#" * many)
            self.assertEqual((len(weather.beginning), len(weather.again)), (many, many))

    def test_wrong_texts(self):
        for beginning, again in (("", "."), (".", ""), ("." * 61, "."), (".", "." * 61), ("#", "."), ("#.", "."),
                                 (".o", "."), (".", "x"), (". ", "."), (".", "#\n"), ("." * 60 + "#", "#" * 61),
                                 ("", "")):
            with self.subTest((beginning, again)):
                with self.assertRaises(BadWeather) as caught:
                    LongWeather(beginning, again)
                self.assertIsInstance(caught.exception, DampError)


class Signs(unittest.TestCase):
    def test_against_the_unrolled_signs(self):
        for beginning, again in some_long(251, 60, 9):
            weather = LongWeather(beginning, again)
            signs = long_signs(beginning, again, 300)
            for hour in list(range(1, 40)) + [100, 299, 300]:
                self.assertIs(weather.is_dry(hour), signs[hour - 1] == ".")
            for n in (1, 2, 5, 30, 199, 200):
                told = weather.first(n)
                self.assertIsInstance(told, Weather)
                self.assertEqual(told.signs(), signs[:n])

    def test_far_hours(self):
        far = 10 ** 30 - 10 ** 30 % 7
        self.assertEqual([EXAMPLE.is_dry(far + at) for at in range(1, 8)], [True] * 5 + [False] * 2)
        weather = LongWeather("..", "..#")
        start = 2 + 3 * (10 ** 29)
        self.assertEqual([weather.is_dry(start + at) for at in range(7)], [False, True, True, False, True, True, False])

    def test_hours_that_do_not_exist(self):
        for hour in (0, -1, -10 ** 29):
            with self.assertRaises(BadHour) as caught:
                EXAMPLE.is_dry(hour)
            self.assertIsInstance(caught.exception, DampError)
        for n in (0, 201, -1, 10 ** 30):
            with self.assertRaises(BadHour):
                EXAMPLE.first(n)
        self.assertEqual(EXAMPLE.first(200).hours, 200)


class Breaches(unittest.TestCase):
    def test_against_the_unrolled_signs(self):
        dice = Random(252)
        seen = {"none": 0, "beginning": 0, "round": 0, "later": 0}
        for kinds in some_kinds(253, 250, 4, 9):
            beginning, again = dice.choice(some_long(254, 150, 9))
            weather = LongWeather(beginning, again)
            # After some rounds runs are as long as the need, or periodic.
            expected = plain_breach(kinds, long_signs(beginning, again, 80))
            self.assertEqual(weather.breach(Climate(kinds)), expected)
            first = len(beginning)
            seen["none" if expected is None else "beginning" if expected <= first
                 else "round" if expected <= first + len(again) else "later"] += 1
            if expected is not None:
                self.assertEqual(breach(Climate(kinds), weather.first(100)), expected)
        self.assertTrue(min(seen.values()) > 5, seen)

    def test_by_hand(self):
        climate = Climate([(2, 5), (4, 9)])
        for beginning, again, hour in ((".....##", ".....##", None), (".....###", ".....##", 8),
                                       (".....#", "#....#", 12), (".....", "###.......", 8),
                                       # Only where two rounds meet: the spell goes on across the border.
                                       (".....", "##.....#", 15), (".", ".....##..", None),
                                       # Only from the second round on: the first run is longer.
                                       (".....", "....##", 16), (".........", "####.....", 21),
                                       (".", ".", None), (".", "#", 2), (".........", "#", 14)):
            with self.subTest((beginning, again)):
                self.assertEqual(LongWeather(beginning, again).breach(climate), hour)

    def test_only_where_two_rounds_meet(self):
        climate = Climate([(2, 5)])
        weather = LongWeather(".....#", "......##")
        self.assertIsNone(weather.breach(climate))
        weather = LongWeather(".....", "#.......##")
        self.assertEqual(plain_breach([(2, 5)], weather.first(15).signs()), None)
        self.assertEqual(weather.breach(climate), 16)

    def test_runs_that_grow_for_many_rounds(self):
        # Each round is dry but for nothing: the run is endless, and no spell follows it.
        self.assertIsNone(LongWeather(".", ".").breach(Climate([(1, 120)])))
        # A round of 60 hours with one damp hour: runs of 59 hours.
        weather = LongWeather("." * 60, "." * 59 + "#")
        self.assertIsNone(weather.breach(Climate([(1, 59)])))
        self.assertEqual(weather.breach(Climate([(1, 60)])), 180)
        self.assertEqual(weather.breach(Climate([(1, 120)])), 120)
        self.assertEqual(weather.breach(Climate([])), 120)

    def test_a_round_of_damp_hours_alone(self):
        for w in (1, 2, 16):
            self.assertEqual(LongWeather("...", "#").breach(Climate([(w, 3)])), 4 + w)
            self.assertEqual(LongWeather("...#", "###").breach(Climate([(w, 3)])), 4 + w)

    def test_longest_spells_across_borders(self):
        for beginning, again in some_long(255, 80, 6):
            signs = long_signs(beginning, again, 60)
            needed = [(spell, run) for run, spell in spells(signs)]
            if again.strip("#") and all(w <= 16 for w, g in needed):
                weather = LongWeather(beginning, again)
                self.assertIsNone(weather.breach(Climate(needed)))
                for w, g in needed:
                    less = [(v, r) for v, r in needed if v < w]
                    self.assertTrue(most_damp(less, g) < w)
                    self.assertIsNotNone(weather.breach(Climate(less)))


if __name__ == "__main__":
    unittest.main()
