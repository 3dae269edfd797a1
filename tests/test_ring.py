from fractions import Fraction
from random import Random
import unittest

from dampspells.base.errors import BadNumber, DampError, Spoilt, Strange, Unsound
from dampspells.base.lacquer import Lacquer
from dampspells.base.ratio import Ratio
from dampspells.far.longweather import LongWeather
from dampspells.far.ring import best_coats, best_hour, best_pace, rule_coats, rule_hour, rule_pace
from dampspells.lead.loss import pace, sure_by
from dampspells.lead.tops import greatest
from dampspells.lead.verdict import is_sound
from dampspells.sky.climate import Climate
from dampspells.told.reach import spoilt_hour
from dampspells.told.rule import rule_row
from tests.plain import lacquer_pairs, last_reached, long_signs, most_damp, some_kinds, some_long, spells

EXAMPLE = (Lacquer(4, 5), Climate([(2, 5)]), LongWeather(".....##", ".....##"))
BAD = Climate([(1, 2), (2, 4), (5, 9)])
FAR = 800


def as_fraction(ratio):
    return Fraction(ratio.top, ratio.bottom)


def plain_best(a, b, signs):
    """The earliest row of coats that goes on to the end of very many signs, without its last coats."""
    lasting = set()
    for hour in range(len(signs), 0, -1):
        if signs[hour - 1] == "." and (hour + b > len(signs) or any(hour + s in lasting for s in range(a, b + 1))):
            lasting.add(hour)
    row = [1]
    while row[-1] + b <= len(signs):
        row.append(next(hour for hour in range(row[-1] + a, len(signs) + 1) if hour in lasting))
    return [hour for hour in row if hour <= len(signs) - 300]


def plain_rule(a, b, kinds, signs):
    """Point [21], hour by hour; without the last coats, for which more signs could matter."""
    row = [1]
    for hour in range(2, len(signs) - 300):
        if signs[hour - 1] == "." and hour >= row[-1] + a:
            spell = signs.find("#", hour)
            start = signs.rfind("#", 0, hour) + 1
            ahead = spell - hour + 1
            if spell < 0 or -(-ahead // a) * b >= ahead + most_damp(kinds, spell - start):
                row.append(hour)
    return row


def is_pace(row, told):
    """True if from some coat on as many hours lie between any coat and the one that is c later as the pace says."""
    half = row[len(row) // 3:]
    return any(all(later - early == told * c for early, later in zip(half, half[c:]))
               for c in range(told.denominator, len(half) // 2, told.denominator))


def check_row(test, row, hour_of, coats_by, told):
    for n in [*range(0, 60), *range(60, len(row), 17), len(row) - 1]:
        test.assertEqual(hour_of(n), row[n])
    for hour in [*range(1, 100), *range(100, row[-1], 37)]:
        test.assertEqual(coats_by(hour), sum(coat <= hour for coat in row) - 1)
    test.assertIsInstance(told, Ratio)
    test.assertTrue(is_pace(row, as_fraction(told)), (row[:50], told.text()))


class BestRows(unittest.TestCase):
    def test_against_a_walk_through_many_rounds(self):
        kept = spoilt = 0
        cases = zip(some_long(401, 160, 9), lacquer_pairs(6) * 11)
        for (beginning, again), (a, b) in cases:
            lacquer, weather = Lacquer(a, b), LongWeather(beginning, again)
            signs = long_signs(beginning, again, FAR)
            last = last_reached(a, b, signs)
            if last + b <= FAR:
                spoilt += 1
                for ask in (lambda: best_hour(lacquer, weather, 0), lambda: best_coats(lacquer, weather, 1),
                            lambda: best_pace(lacquer, weather)):
                    with self.assertRaises(Spoilt) as caught:
                        ask()
                    self.assertEqual(caught.exception.hour, last + b)
            else:
                kept += 1
                check_row(self, plain_best(a, b, signs), lambda n: best_hour(lacquer, weather, n),
                          lambda hour: best_coats(lacquer, weather, hour), best_pace(lacquer, weather))
        self.assertTrue(kept > 40 and spoilt > 20, (kept, spoilt))

    def test_spoilt_in_the_beginning_and_rounds_later(self):
        for weather, lacquer, hour in ((LongWeather("....##...", "....."), Lacquer(4, 5), 6),
                                       (LongWeather(".", "#"), Lacquer(1, 12), 13),
                                       (LongWeather("......#.#.", "#"), Lacquer(8, 9), 19),
                                       (LongWeather(".", "...#....##"), Lacquer(8, 9), 71),
                                       (LongWeather(".", "#........#"), Lacquer(8, 9), 82),
                                       (LongWeather(".....", "....#"), Lacquer(1, 2), None),
                                       (LongWeather(".", "......#"), Lacquer(4, 5), None)):
            signs = long_signs(weather.beginning, weather.again, FAR)
            last = last_reached(lacquer.a, lacquer.b, signs) + lacquer.b
            self.assertEqual(last if last <= FAR else None, hour)
            if hour is not None:
                for n in (0, -1, 10 ** 15 + 1):
                    with self.assertRaises(Spoilt) as caught:
                        best_hour(lacquer, weather, n)
                    self.assertEqual(caught.exception.hour, hour)
                self.assertEqual(spoilt_hour(lacquer, weather.first(hour)), hour)

    def test_without_damp_hours(self):
        for a, b in lacquer_pairs(12):
            weather = LongWeather("...", "..")
            self.assertEqual(best_hour(Lacquer(a, b), weather, 10 ** 15), 1 + a * 10 ** 15)
            self.assertEqual(best_coats(Lacquer(a, b), weather, 10 ** 17), (10 ** 17 - 1) // a)
            self.assertEqual(best_pace(Lacquer(a, b), weather).text(), str(a))
            climate = greatest(Lacquer(a, b))
            self.assertEqual(rule_hour(Lacquer(a, b), climate, weather, 10 ** 15), 1 + a * 10 ** 15)
            self.assertEqual(rule_coats(Lacquer(a, b), climate, weather, 10 ** 17), (10 ** 17 - 1) // a)
            self.assertEqual(rule_pace(Lacquer(a, b), climate, weather).text(), str(a))


class RuleRows(unittest.TestCase):
    def cases(self):
        dice = Random(402)
        for beginning, again in some_long(403, 250, 12):
            a, b = dice.choice(lacquer_pairs(7))
            signs = long_signs(beginning, again, 80)
            needed = [(spell, min(run, 120)) for run, spell in spells(signs)]
            for more in ([], [(dice.randint(1, 4), dice.randint(1, 12))]):
                if all(w <= 16 for w, g in needed) and is_sound(Lacquer(a, b), Climate(needed + more)):
                    yield a, b, needed + more, beginning, again

    def test_against_a_walk_through_many_rounds(self):
        many = equal = 0
        for a, b, kinds, beginning, again in self.cases():
            lacquer, climate, weather = Lacquer(a, b), Climate(kinds), LongWeather(beginning, again)
            signs = long_signs(beginning, again, FAR)
            row = plain_rule(a, b, kinds, signs)
            told = rule_pace(lacquer, climate, weather)
            check_row(self, row, lambda n: rule_hour(lacquer, climate, weather, n),
                      lambda hour: rule_coats(lacquer, climate, weather, hour), told)
            # Point [44], and point [14] for the coats.
            best = as_fraction(best_pace(lacquer, weather))
            self.assertTrue(best <= as_fraction(told) <= as_fraction(pace(lacquer, climate)))
            self.assertTrue(all(best_hour(lacquer, weather, n) <= row[n] <= sure_by(lacquer, climate, n)
                                for n in range(60)))
            # Point [43]: spells of W(L) hours.
            if all(spell == most_damp(kinds, run) for run, spell in spells(signs[:FAR - len(again)])[:-1]):
                self.assertEqual(row[:60], [best_hour(lacquer, weather, n) for n in range(60)])
                equal += 1
            many += 1
        self.assertTrue(many > 60 and equal > 15, (many, equal))

    def test_rows_that_are_later_than_the_earliest(self):
        # The spells could be longer than they are, and the rule is prepared for it.
        lacquer, climate = Lacquer(3, 5), Climate([(2, 1), (4, 4)])
        weather = LongWeather("..#.....", ".#...")
        self.assertEqual([rule_hour(lacquer, climate, weather, n) for n in range(6)], [1, 4, 9, 14, 19, 24])
        self.assertEqual([best_hour(lacquer, weather, n) for n in range(6)], [1, 4, 7, 11, 14, 17])
        self.assertEqual(rule_pace(lacquer, climate, weather).text(), "5")
        self.assertEqual(best_pace(lacquer, weather).text(), "10/3")
        self.assertEqual(rule_coats(lacquer, climate, weather, 24), 5)
        self.assertEqual(best_coats(lacquer, weather, 24), 7)

    def test_told_weathers_have_the_same_beginning(self):
        for a, b, kinds, beginning, again in self.cases():
            lacquer, climate, weather = Lacquer(a, b), Climate(kinds), LongWeather(beginning, again)
            row = rule_row(lacquer, climate, weather.first(200))
            early = [hour for hour in row if hour <= 150]
            self.assertEqual([rule_hour(lacquer, climate, weather, n) for n in range(len(early))], early)


class Far(unittest.TestCase):
    def test_example(self):
        self.assertEqual([rule_hour(*EXAMPLE, n) for n in range(4)], [1, 5, 10, 15])

    def test_far_coats(self):
        for ask_hour, ask_coats, told, given in ((rule_hour, rule_coats, rule_pace, EXAMPLE),
                                                 (best_hour, best_coats, best_pace, (EXAMPLE[0], EXAMPLE[2]))):
            self.assertEqual(told(*given).text(), "14/3")
            for n in (0, 1, 2, 3, 10 ** 9, 10 ** 15 - 1, 10 ** 15):
                hour = ask_hour(*given, n)
                # From coat to coat 3 later there are 14 hours.
                self.assertEqual(hour, ask_hour(*given, n % 3) + n // 3 * 14)
                self.assertEqual(ask_coats(*given, hour), n)
                if n:
                    self.assertEqual(ask_coats(*given, hour - 1), n - 1)
            self.assertEqual(ask_coats(*given, 10 ** 17), 21428571428571428)
            self.assertEqual([ask_coats(*given, hour) for hour in (1, 4, 5, 9, 10)], [0, 0, 1, 1, 2])

    def test_long_texts(self):
        lacquer = Lacquer(11, 12)
        weather = LongWeather("." * 60, "." * 59 + "#")
        row = plain_best(11, 12, long_signs(weather.beginning, weather.again, 4000))
        for n in range(len(row)):
            self.assertEqual(best_hour(lacquer, weather, n), row[n])
        kinds = greatest(lacquer).kinds
        row = plain_rule(11, 12, kinds, long_signs(weather.beginning, weather.again, 4000))
        for n in range(len(row)):
            self.assertEqual(rule_hour(lacquer, Climate(kinds), weather, n), row[n])

    def test_a_run_without_an_end_after_spells(self):
        lacquer, climate = Lacquer(4, 5), Climate([(2, 5)])
        weather = LongWeather(".....##.....##", ".")
        self.assertEqual([rule_hour(lacquer, climate, weather, n) for n in range(8)], [1, 5, 10, 15, 19, 23, 27, 31])
        self.assertEqual(rule_pace(lacquer, climate, weather).text(), "4")
        self.assertEqual(rule_hour(lacquer, climate, weather, 10 ** 15), 15 + 4 * (10 ** 15 - 3))

    def test_wrong_numbers(self):
        lacquer, climate, weather = EXAMPLE
        for n in (-1, 10 ** 15 + 1, -10 ** 30, 10 ** 30):
            for ask in (lambda: rule_hour(lacquer, climate, weather, n), lambda: best_hour(lacquer, weather, n)):
                with self.assertRaises(BadNumber) as caught:
                    ask()
                self.assertIsInstance(caught.exception, DampError)
        for hour in (0, -1, 10 ** 17 + 1, 10 ** 30):
            for ask in (lambda: rule_coats(lacquer, climate, weather, hour), lambda: best_coats(lacquer, weather, hour)):
                with self.assertRaises(BadNumber) as caught:
                    ask()
                self.assertIsInstance(caught.exception, DampError)

    def test_errors_in_their_order(self):
        lacquer, climate, _ = EXAMPLE
        strange = LongWeather(".....", "###.......")
        for wrong in (0, -1, 10 ** 30):
            for ask in (lambda c: rule_hour(lacquer, c, strange, wrong), lambda c: rule_coats(lacquer, c, strange, wrong),
                        lambda c: rule_pace(lacquer, c, strange)):
                with self.assertRaises(Unsound) as caught:
                    ask(BAD)
                self.assertEqual(caught.exception.kind, (2, 4))
                self.assertIsInstance(caught.exception, DampError)
                with self.assertRaises(Strange) as caught:
                    ask(climate)
                self.assertEqual(caught.exception.hour, 8)
                self.assertIsInstance(caught.exception, DampError)
            spoilt = LongWeather("....##", ".")
            for ask in (lambda: best_hour(lacquer, spoilt, wrong), lambda: best_coats(lacquer, spoilt, wrong),
                        lambda: best_pace(lacquer, spoilt)):
                with self.assertRaises(Spoilt) as caught:
                    ask()
                self.assertEqual(caught.exception.hour, 6)
                self.assertIsInstance(caught.exception, DampError)


if __name__ == "__main__":
    unittest.main()
