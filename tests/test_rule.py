import unittest

from dampspells.base.errors import DampError, Strange, Unsound
from dampspells.base.lacquer import Lacquer
from dampspells.lead.loss import sure_by
from dampspells.lead.verdict import is_sound, lead_of
from dampspells.sky.climate import Climate
from dampspells.sky.member import breach, fullest
from dampspells.sky.weather import Weather
from dampspells.told.keep import is_keeping
from dampspells.told.rule import rule_row, spare
from dampspells.told.span import earliest
from tests.plain import is_of, lacquer_pairs, most_damp, signs_of, signs_up_to, some_kinds

EXAMPLE = (Lacquer(4, 5), Climate([(2, 5)]))
PAIRS = lacquer_pairs(5)
CASES = [(a, b, kinds) for a, b in PAIRS for kinds in some_kinds(41, 14, 4, 7, 3)
         if is_sound(Lacquer(a, b), Climate(kinds))]


def plain_rule(a, b, kinds, signs):
    """Point [21], word for word."""
    row = [1]
    for hour in range(2, len(signs) + 1):
        if hour >= row[-1] + a and signs[hour - 1] == "." and is_good(a, b, kinds, signs, hour):
            row.append(hour)
    return row


def is_good(a, b, kinds, signs, hour):
    damp = signs.find("#", hour - 1) + 1
    if damp == 0:
        return True
    run = damp - 2 - signs.rfind("#", 0, hour - 1)
    ahead = damp - hour
    return -(-ahead // a) * b >= ahead + most_damp(kinds, run)


class Rules(unittest.TestCase):
    def test_example(self):
        self.assertEqual(rule_row(*EXAMPLE, Weather([5, 2, 5, 2, 1])), [1, 5, 10, 15])
        self.assertEqual(spare(*EXAMPLE, Weather([5, 2, 5, 2, 1])), [0, 1, 1, 1])

    def test_there_are_cases(self):
        self.assertGreater(len(CASES), 40)
        self.assertGreater(len([kinds for a, b, kinds in CASES if kinds]), 30)

    def test_all_short_weathers(self):
        for a, b, kinds in CASES:
            for signs in signs_of(kinds, 9) + signs_of(kinds, 10)[::3]:
                self.check(a, b, kinds, signs)

    def check(self, a, b, kinds, signs):
        lacquer, climate, weather = Lacquer(a, b), Climate(kinds), Weather.of_signs(signs)
        row = rule_row(lacquer, climate, weather)
        self.assertEqual(row, plain_rule(a, b, kinds, signs))
        self.assertIs(is_keeping(lacquer, weather, row), True)
        spared = [sure_by(lacquer, climate, n) - hour for n, hour in enumerate(row)]
        self.assertEqual(spare(lacquer, climate, weather), spared)
        self.assertGreaterEqual(min(spared), 0)

    def test_the_weather_may_end_anywhere(self):
        climate, lacquer = Climate([(2, 5), (4, 14)]), Lacquer(4, 5)
        # The run of 5 hours is followed by a spell, if only by one hour of it.
        self.assertEqual(rule_row(lacquer, climate, Weather([6])), [1, 5])
        self.assertEqual(rule_row(lacquer, climate, Weather([6, 1])), [1, 5])
        self.assertEqual(rule_row(lacquer, climate, Weather([6, 2])), [1, 5])
        self.assertEqual(rule_row(lacquer, climate, Weather([7, 2])), [1, 5])
        self.assertEqual(rule_row(lacquer, climate, Weather([8])), [1, 5])
        self.assertEqual(rule_row(lacquer, climate, Weather([10])), [1, 5, 9])
        self.assertEqual(rule_row(lacquer, climate, Weather([10, 1])), [1, 5, 9])
        self.assertEqual(rule_row(lacquer, climate, Weather([11, 1])), [1, 5, 9])
        self.assertEqual(rule_row(lacquer, climate, Weather([9, 1])), [1, 5, 9])
        self.assertEqual(rule_row(lacquer, climate, Weather([5, 2, 5, 2])), [1, 5, 10])
        self.assertEqual(rule_row(lacquer, climate, Weather([5, 2, 8, 1])), [1, 5, 9, 13])
        self.assertEqual(rule_row(lacquer, climate, Weather([1])), [1])

    def test_only_the_hours_up_to_the_lead_count(self):
        for a, b, kinds in CASES:
            lacquer, climate = Lacquer(a, b), Climate(kinds)
            lead = lead_of(lacquer, climate)
            for signs in signs_of(kinds, 10)[::7]:
                row = rule_row(lacquer, climate, Weather.of_signs(signs))
                for hour in range(1, 11 - lead):
                    told = rule_row(lacquer, climate, Weather.of_signs(signs[:hour + lead]))
                    self.assertEqual([q for q in told if q <= hour], [q for q in row if q <= hour])

    def test_full_spells_give_the_earliest_keeping(self):
        for a, b, kinds in CASES:
            climate, lacquer = Climate(kinds), Lacquer(a, b)
            if kinds:
                runs = [climate.need, climate.need + 1, climate.kinds[0][1], climate.need + 5, 40]
                weather = fullest(climate, runs)
                self.assertEqual(rule_row(lacquer, climate, weather), earliest(lacquer, weather))

    def test_long_weathers(self):
        self.assertEqual(rule_row(Lacquer(1, 2), Climate([]), Weather([200])), list(range(1, 201)))
        self.assertEqual(spare(Lacquer(1, 2), Climate([(1, 120)]), Weather([120, 1, 79]))[-1], 0)
        lacquer, climate = Lacquer(11, 12), Climate([(11, 111)])
        weather = Weather([120, 11, 69])
        row = rule_row(lacquer, climate, weather)
        self.assertEqual(row, plain_rule(11, 12, [(11, 111)], weather.signs()))
        self.assertTrue(is_keeping(lacquer, weather, row))

    def test_no_kinds(self):
        self.assertEqual(rule_row(Lacquer(2, 3), Climate([]), Weather([6])), [1, 3, 5])
        self.assertEqual(spare(Lacquer(2, 3), Climate([]), Weather([6])), [0, 0, 0])

    def test_lists_are_new(self):
        weather = Weather([5, 2, 5])
        rule_row(*EXAMPLE, weather).append(77)
        spare(*EXAMPLE, weather).append(77)
        self.assertNotIn(77, rule_row(*EXAMPLE, weather) + spare(*EXAMPLE, weather))


class Refusals(unittest.TestCase):
    def test_unsound_comes_first(self):
        climate = Climate([(6, 50), (3, 9), (2, 4), (1, 2)])
        for ask in (rule_row, spare):
            for weather in (Weather([4, 2]), Weather([1, 9, 3]), Weather([5])):
                with self.assertRaises(Unsound) as caught:
                    ask(Lacquer(4, 5), climate, weather)
                self.assertEqual(caught.exception.kind, (2, 4))
                self.assertIsInstance(caught.exception, DampError)

    def test_strange_weathers(self):
        for a, b, kinds in CASES[::3]:
            climate = Climate(kinds)
            for signs in signs_up_to(7):
                if not is_of(kinds, signs):
                    weather = Weather.of_signs(signs)
                    for ask in (rule_row, spare):
                        with self.assertRaises(Strange) as caught:
                            ask(Lacquer(a, b), climate, weather)
                        self.assertEqual(caught.exception.hour, breach(climate, weather))

    def test_breach(self):
        with self.assertRaises(Strange) as caught:
            rule_row(*EXAMPLE, Weather([5, 3, 1]))
        self.assertEqual(caught.exception.hour, 8)
        self.assertIsInstance(caught.exception, DampError)


if __name__ == "__main__":
    unittest.main()
