import unittest

from dampspells.sky.climate import Climate
from dampspells.sky.order import beneath, joined, parting, shared
from dampspells.sky.weather import Weather
from tests.plain import is_of, most_damp, signs_up_to, some_kinds

SOME = some_kinds(9, 40, 3, 4)
SIGNS = signs_up_to(9)


class Orders(unittest.TestCase):
    def setUp(self):
        self.weathers = [[signs for signs in SIGNS if is_of(kinds, signs)] for kinds in SOME]

    def test_beneath_and_parting_among_all_short_weathers(self):
        for one, ones in zip(SOME, self.weathers):
            for other, others in zip(SOME, self.weathers):
                left = [signs for signs in ones if signs not in set(others)]
                self.assertIs(beneath(Climate(one), Climate(other)), not left)
                weather = parting(Climate(one), Climate(other))
                if left:
                    fewest = [signs for signs in left if len(signs) == len(left[0])]
                    self.assertEqual([weather.signs()], fewest)
                else:
                    self.assertIsNone(weather)

    def test_examples(self):
        self.assertEqual(parting(Climate([(2, 5)]), Climate([(1, 2)])).lengths, (5, 2))
        self.assertEqual(parting(Climate([(16, 120)]), Climate([(15, 1)])).lengths, (120, 16))
        self.assertEqual(parting(Climate([(1, 3), (9, 20)]), Climate([(1, 2), (4, 9)])).lengths, (20, 5))
        self.assertIsNone(parting(Climate([]), Climate([])))
        self.assertIs(beneath(Climate([(2, 5)]), Climate([(2, 5)])), True)
        self.assertIs(beneath(Climate([(2, 5)]), Climate([(2, 6)])), False)
        self.assertIs(beneath(Climate([(2, 5)]), Climate([(1, 5)])), False)
        self.assertIs(beneath(Climate([]), Climate([(1, 120)])), True)
        self.assertIs(beneath(Climate([(1, 120)]), Climate([])), False)

    def test_join_is_the_least_climate_above(self):
        for one in SOME[:12]:
            for other in SOME[12:24]:
                join = joined(Climate(one), Climate(other))
                for third in SOME:
                    above = all(beneath(Climate(kinds), Climate(third)) for kinds in (one, other))
                    self.assertIs(beneath(join, Climate(third)), above)

    def test_join_of_any_number(self):
        self.assertEqual(joined().kinds, ())
        self.assertEqual(joined(Climate([(2, 5)])).kinds, ((2, 5),))
        whole = joined(*[Climate(kinds) for kinds in SOME])
        together = sum(SOME, [])
        self.assertEqual([whole.longest(run) for run in range(9)], [most_damp(together, run) for run in range(9)])
        many = [Climate([(w, g)]) for w in range(1, 17) for g in range(1, 121)]
        self.assertEqual(joined(*many).kinds, ((16, 1),))

    def test_meet_of_any_number(self):
        self.assertEqual(shared(Climate([(2, 5)])).kinds, ((2, 5),))
        for one, two, three in zip(SOME, SOME[5:], SOME[9:]):
            meet = shared(Climate(one), Climate(two), Climate(three))
            for signs in SIGNS[:200]:
                common = is_of(one, signs) and is_of(two, signs) and is_of(three, signs)
                self.assertIs(Weather.of_signs(signs) in meet, common)


if __name__ == "__main__":
    unittest.main()
