import unittest

from dampspells.base.errors import BadKind, DampError
from dampspells.base.lacquer import Lacquer
from dampspells.lead.spoilers import least_spoiler, spoiler
from dampspells.sky.climate import Climate
from dampspells.sky.weather import Weather
from tests.plain import is_of, last_reached, lacquer_pairs, signs_up_to, some_kinds
from tests.test_verdict import is_bad

PAIRS = lacquer_pairs(12)


class Spoilers(unittest.TestCase):
    def test_of_each_kind(self):
        for a, b in PAIRS:
            for w in range(1, 17):
                for g in (*range(1, 30), 60, 109, 110, 111, 119, 120):
                    told = spoiler(Lacquer(a, b), w, g)
                    if not is_bad(a, b, w, g):
                        self.assertIsNone(told)
                    elif w >= b:
                        self.assertEqual(told.lengths, (g, b))
                    else:
                        turns = next(k for k in range(121) if k * a >= g)
                        self.assertEqual(told.lengths, (turns * a, turns * (b - a) + 1))

    def test_they_spoil_the_work_in_the_climate(self):
        for a, b in PAIRS[::3]:
            for w in range(1, 17, 2):
                for g in (1, 2, 5, 9, 40, 120):
                    weather = spoiler(Lacquer(a, b), w, g)
                    if weather:
                        self.assertIn(weather, Climate([(w, g)]))
                        self.assertLessEqual(last_reached(a, b, weather.signs()) + b, weather.hours)

    def test_examples(self):
        self.assertEqual(spoiler(Lacquer(4, 5), 2, 4).lengths, (4, 2))
        self.assertEqual(spoiler(Lacquer(4, 5), 5, 9).lengths, (9, 5))
        self.assertEqual(spoiler(Lacquer(4, 5), 4, 9).lengths, (12, 4))
        self.assertIsNone(spoiler(Lacquer(4, 5), 2, 5))
        self.assertIsNone(spoiler(Lacquer(4, 5), 4, 13))

    def test_no_kinds(self):
        for w, g in ((0, 5), (17, 5), (2, 0), (2, 121)):
            with self.assertRaises(BadKind) as caught:
                spoiler(Lacquer(4, 5), w, g)
            self.assertIsInstance(caught.exception, DampError)

    def test_least_among_all_short_weathers(self):
        signs = signs_up_to(13)
        for a, b in lacquer_pairs(4) + [(3, 5)]:
            spoilt = [text for text in signs if last_reached(a, b, text) + b <= len(text)]
            for kinds in some_kinds(21, 60, 5, 7):
                first = next((text for text in spoilt if is_of(kinds, text)), None)
                told = least_spoiler(Lacquer(a, b), Climate(kinds))
                self.assertEqual(told and told.signs(), first)

    def test_least_among_all_with_one_spell(self):
        for a, b in PAIRS:
            spoilt = [(run + spell, -run) for run in range(1, 60) for spell in range(1, b + 1)
                      if last_reached(a, b, "." * run + "#" * spell) + b <= run + spell]
            spoilt.sort()
            for kinds in some_kinds(22, 15, 14, 40):
                first = next(((-run, hours + run) for hours, run in spoilt
                              if is_of(kinds, "." * -run + "#" * (hours + run))), None)
                told = least_spoiler(Lacquer(a, b), Climate(kinds))
                self.assertEqual(told and told.lengths, first)

    def test_edges_of_the_least(self):
        self.assertIsNone(least_spoiler(Lacquer(4, 5), Climate([])))
        self.assertIsNone(least_spoiler(Lacquer(4, 5), Climate([(4, 13)])))
        self.assertEqual(least_spoiler(Lacquer(4, 5), Climate([(4, 12)])), Weather([12, 4]))
        self.assertEqual(least_spoiler(Lacquer(11, 12), Climate([(11, 110)])).lengths, (110, 11))
        self.assertEqual(least_spoiler(Lacquer(11, 12), Climate([(16, 120)])).lengths, (120, 12))
        self.assertEqual(least_spoiler(Lacquer(11, 12), Climate([(12, 111)])).lengths, (111, 12))
        self.assertEqual(least_spoiler(Lacquer(1, 2), Climate([(2, 120)])).lengths, (120, 2))


if __name__ == "__main__":
    unittest.main()
