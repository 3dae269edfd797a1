from random import Random
import unittest

from dampspells.base.errors import BadHour, BadNumber, DampError, Strange, TooLarge
from dampspells.base.lacquer import Lacquer
from dampspells.lead.verdict import is_sound, lead_of, sight_needed
from dampspells.sky.climate import Climate
from dampspells.sky.member import breach
from dampspells.sky.weather import Weather
from dampspells.play.hourly import HourWeb, least_sight, sure_hourly
from dampspells.told.rule import rule_row
from dampspells.web.stepset import StepSet
from tests.plain import (forget, is_of, lacquer_pairs, signs_of, some_kinds, some_steps, worker_goes_on, worker_is_sure)

PAIRS = lacquer_pairs(6)
SMALL = [(steps, kinds) for steps in ([1], [1, 2], [2], [2, 3], [1, 3], [1, 2, 3], [2, 4])
         for kinds in ([], [(1, 1)], [(1, 2)], [(2, 1)], [(1, 1), (2, 2)], [(2, 2)], [(1, 1), (2, 3)])]
EXAMPLE = (StepSet([4, 5]), Climate([(2, 5)]))


class Sureness(unittest.TestCase):
    def test_lacquers(self):
        for a, b in PAIRS:
            for kinds in some_kinds(81, 10, 6, 8, 3):
                lacquer, climate = Lacquer(a, b), Climate(kinds)
                for sight in range(6):
                    sure = is_sound(lacquer, climate) and sight >= lead_of(lacquer, climate)
                    self.assertIs(sure_hourly(StepSet.of(lacquer), climate, sight), sure)

    def test_by_trying_all_ways_of_choosing(self):
        self.addCleanup(forget)
        seen = []
        for steps, kinds in SMALL:
            for sight in range(3):
                web = HourWeb(StepSet(steps), Climate(kinds), sight)
                self.assertIs(web.sure, worker_is_sure(steps, kinds, sight, 13))
                seen.append((web.sure, sight))
        self.assertEqual(len(set(seen)), 6)

    def test_all_beginnings_count(self):
        # With the sight 5 only some of the beginnings lead to spoilt work.
        self.addCleanup(forget)
        steps, kinds = [1, 4, 6], [(1, 1), (3, 3)]
        self.assertIs(worker_is_sure(steps, kinds, 5, 14), False)
        self.assertIs(sure_hourly(StepSet(steps), Climate(kinds), 5), False)
        web = HourWeb(StepSet(steps), Climate(kinds), 5)
        beginnings = [text for text in signs_of(kinds, 7) if web.choices_at(Weather.of_signs(text), 1)]
        self.assertTrue(0 < len(beginnings) < len(signs_of(kinds, 7)))

    def test_more_sight_is_never_worse(self):
        for steps, kinds in zip(some_steps(82, 30, 6), some_kinds(83, 30, 4, 8, 3)):
            told = [sure_hourly(StepSet(steps), Climate(kinds), sight) for sight in range(6)]
            self.assertEqual(told, sorted(told))
            least = told.index(True) if True in told else None
            for most in range(6):
                expected = least if least is not None and least <= most else None
                self.assertEqual(least_sight(StepSet(steps), Climate(kinds), most), expected)

    def test_one_less_than_the_lead(self):
        for a, b in PAIRS:
            for kinds in some_kinds(84, 16, 4, 8, 3):
                needed = sight_needed(Lacquer(a, b), Climate(kinds))
                steps = StepSet.of(Lacquer(a, b))
                if needed is not None and needed <= 5:
                    self.assertEqual(least_sight(steps, Climate(kinds), 5), needed)
                    self.assertEqual(least_sight(steps, Climate(kinds), needed), needed)
                    if needed > 0:
                        self.assertIsNone(least_sight(steps, Climate(kinds), needed - 1))
                elif needed is None:
                    self.assertIsNone(least_sight(steps, Climate(kinds), 5))

    def test_no_kinds(self):
        self.assertIs(sure_hourly(StepSet([1]), Climate([]), 0), True)
        self.assertIs(sure_hourly(StepSet([6]), Climate([]), 0), True)
        self.assertEqual(least_sight(StepSet([6]), Climate([]), 5), 0)

    def test_at_the_bounds(self):
        climate = Climate([(1, 1), (2, 2), (3, 4), (6, 8)])
        self.assertIs(sure_hourly(StepSet([1, 2, 3, 4, 5, 6]), climate, 5), False)
        self.assertIs(sure_hourly(StepSet([1, 2, 3, 4, 5, 6]), Climate([(5, 8)]), 0), True)


class Choices(unittest.TestCase):
    def test_example(self):
        self.assertEqual(HourWeb(*EXAMPLE, 4).choices_at(Weather([12, 1]), 5), ["wait"])

    def test_by_trying_all_ways_of_choosing(self):
        self.addCleanup(forget)
        dice = Random(85)
        seen = []
        for steps, kinds in SMALL:
            for sight in range(3):
                web = HourWeb(StepSet(steps), Climate(kinds), sight)
                for hours in range(sight + 2, 8):
                    signs = dice.choice(signs_of(kinds, hours))
                    now = hours - sight
                    damp = [hour for hour in range(1, hours + 1) if signs[hour - 1] == "#"]
                    for last in range(1, now):
                        for heated in ([], damp, dice.sample(damp, len(damp) // 2)):
                            given = list(heated)
                            told = web.choices_at(Weather.of_signs(signs), last, heated)
                            plain = worker_goes_on(steps, kinds, signs, sight, last, heated, hours + 12)
                            self.assertEqual(told, plain)
                            self.assertEqual(heated, given)
                            seen.append(tuple(told))
                            if not heated:
                                self.assertEqual(web.choices_at(Weather.of_signs(signs), last), told)
        self.assertEqual(set(seen), {(), ("lay",), ("wait",), ("lay", "wait")})

    def test_heated_hours(self):
        web = HourWeb(StepSet([2, 3]), Climate([(1, 1)]), 1)
        weather = Weather([3, 1, 1])
        self.assertEqual(web.choices_at(weather, 1), [])
        self.assertEqual(web.choices_at(weather, 1, [4]), ["lay"])
        self.assertEqual(web.choices_at(weather, 2), ["wait"])
        self.assertEqual(web.choices_at(weather, 2, [4]), ["lay", "wait"])
        self.assertEqual(web.choices_at(weather, 2, [4, 4]), ["lay", "wait"])
        # The damp hours of the climate stay damp: what follows does not change by heating.
        self.assertEqual(web.choices_at(Weather([3, 1]), 1), ["lay"])
        self.assertEqual(web.choices_at(Weather([3, 1]), 1, [4]), ["lay", "wait"])
        self.assertEqual(web.choices_at(Weather([3, 1]), 1, heated=(4,)), ["lay", "wait"])
        self.assertEqual(web.choices_at(Weather([1, 1, 3]), 2, [2]), web.choices_at(Weather([1, 1, 3]), 2))

    def test_the_last_coat(self):
        web = HourWeb(StepSet([2, 3]), Climate([(1, 4)]), 0)
        weather = Weather([4, 1, 4])
        told = {8: ["wait"], 7: ["lay"], 6: ["lay"], 5: [], 4: [], 1: []}
        for last, choices in told.items():
            self.assertEqual(web.choices_at(weather, last), choices)
        # Hour 9 is dry, hour 10 need not be.
        told = {7: ["wait"], 6: ["lay", "wait"], 5: ["lay"], 4: [], 1: []}
        for last, choices in told.items():
            self.assertEqual(web.choices_at(Weather([4, 1, 3]), last), choices)
        # The last coat may have been laid in a damp hour.
        self.assertEqual(web.choices_at(Weather([4, 1, 2]), 5), ["lay", "wait"])

    def test_just_up_to_the_present_hour(self):
        web = HourWeb(StepSet([2, 3]), Climate([(1, 4)]), 0)
        self.assertEqual(web.choices_at(Weather([2]), 1), ["wait"])
        self.assertEqual(web.choices_at(Weather([3]), 1), ["lay", "wait"])
        self.assertEqual(web.choices_at(Weather([4]), 1), ["lay"])
        self.assertEqual(web.choices_at(Weather([4, 1]), 2), [])

    def test_long_weathers(self):
        web = HourWeb(*EXAMPLE, 4)
        weather = Weather([5, 2] * 27 + [11])
        row = rule_row(Lacquer(4, 5), Climate([(2, 5)]), weather)
        for hour, later in zip(row, row[1:]):
            for now in range(max(2, hour + 1), min(later, 196) + 1):
                word = "lay" if now == later else "wait"
                self.assertIn(word, web.choices_at(weather.first(now + 4), hour))

    def test_who_follows_the_choices_is_never_spoilt(self):
        dice = Random(86)
        for a, b in ((2, 3), (4, 5), (1, 3), (3, 6)):
            for kinds in some_kinds(87, 20, 3, 8, 3):
                needed = sight_needed(Lacquer(a, b), Climate(kinds))
                if needed is not None and needed <= 3:
                    self.follow(dice, StepSet.of(Lacquer(a, b)), kinds, needed)

    def follow(self, dice, steps, kinds, sight):
        web = HourWeb(steps, Climate(kinds), sight)
        signs, last = ".", 1
        while len(signs) < 60:
            signs += dice.choice(".#" if is_of(kinds, signs + "#") else ".")
            now = len(signs) - sight
            if now >= 2:
                choices = web.choices_at(Weather.of_signs(signs), last)
                self.assertTrue(choices)
                last = now if dice.choice(choices) == "lay" else last

    def test_lists_are_new(self):
        web = HourWeb(*EXAMPLE, 4)
        web.choices_at(Weather([12, 1]), 5).clear()
        self.assertEqual(web.choices_at(Weather([12, 1]), 5), ["wait"])


class Refusals(unittest.TestCase):
    def test_strange_comes_before_the_hour(self):
        web = HourWeb(*EXAMPLE, 1)
        for signs in ("..#..", ".....###.", ".#"):
            weather = Weather.of_signs(signs)
            for last in (0, 1, -5, 99):
                with self.assertRaises(Strange) as caught:
                    web.choices_at(weather, last)
                self.assertEqual(caught.exception.hour, breach(Climate([(2, 5)]), weather))
                self.assertIsInstance(caught.exception, DampError)

    def test_hours(self):
        for sight in range(4):
            web = HourWeb(*EXAMPLE, sight)
            for hours in range(1, 8):
                now = hours - sight
                for last in (-1, 0, now, now + 1, hours, hours + 5):
                    if not 1 <= last < now:
                        with self.assertRaises(BadHour) as caught:
                            web.choices_at(Weather([hours]), last)
                        self.assertIsInstance(caught.exception, DampError)

    def test_sizes(self):
        small = (StepSet([6]), Climate([(6, 8)]), 5)
        for at, large in ((0, StepSet([1, 7])), (1, Climate([(1, 9)])), (1, Climate([(7, 1)])), (2, 6), (2, 10 ** 9)):
            asked = list(small)
            asked[at] = large
            for ask in (HourWeb, sure_hourly, least_sight):
                ask(*small)
                with self.assertRaises(TooLarge) as caught:
                    ask(*asked)
                self.assertIsInstance(caught.exception, DampError)

    def test_a_negative_sight_comes_first(self):
        for steps, climate in (EXAMPLE, (StepSet([8]), Climate([(9, 120)]))):
            for ask in (HourWeb, sure_hourly, least_sight):
                for sight in (-1, -10 ** 9):
                    with self.assertRaises(BadNumber) as caught:
                        ask(steps, climate, sight)
                    self.assertIsInstance(caught.exception, DampError)


if __name__ == "__main__":
    unittest.main()
