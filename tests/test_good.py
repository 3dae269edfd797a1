import unittest

from dampspells.base.errors import BadNumber, DampError
from dampspells.base.lacquer import Lacquer
from dampspells.lead.good import good_places, is_good, leg
from dampspells.lead.verdict import is_sound
from dampspells.sky.climate import Climate
from tests.plain import is_spoilt, lacquer_pairs, most_damp, some_kinds

EXAMPLE = (Lacquer(4, 5), Climate([(2, 5)]))
SOME = some_kinds(23, 20, 9, 30)


def good(a, b, kinds, run, ahead):
    turns = next(k for k in range(500) if k * a >= ahead)
    return turns * b >= ahead + most_damp(kinds, run)


class GoodPlaces(unittest.TestCase):
    def test_example(self):
        self.assertEqual(good_places(*EXAMPLE, 5), [1, 3, 4, 5])
        self.assertEqual(leg(*EXAMPLE, 6, 1), [1, 5])

    def test_formula(self):
        for a, b in lacquer_pairs(12)[::2]:
            for kinds in SOME[:8]:
                lacquer, climate = Lacquer(a, b), Climate(kinds)
                for run in (1, 2, 5, 17, 31):
                    flags = [good(a, b, kinds, run, ahead) for ahead in range(1, run + 1)]
                    for ahead in range(1, run + 1):
                        self.assertIs(is_good(lacquer, climate, run, ahead), flags[ahead - 1])
                    places = [place for place in range(1, run + 1) if flags[run - place]]
                    self.assertEqual(good_places(lacquer, climate, run), places)

    def test_good_exactly_if_the_spell_can_be_passed(self):
        for a, b in lacquer_pairs(5):
            for w in range(1, b):
                climate = Climate([(w, 1)])
                for ahead in range(1, 9):
                    passed = not is_spoilt(a, b, "." * ahead + "#" * w + "." * b)
                    self.assertIs(is_good(Lacquer(a, b), climate, 8, ahead), passed)

    def test_leg(self):
        for a, b in lacquer_pairs(7):
            for kinds in SOME:
                lacquer, climate = Lacquer(a, b), Climate(kinds)
                for run in (1, 4, 12, 25):
                    for place in range(1, run + 1):
                        self.assertEqual(leg(lacquer, climate, run, place), self.plain_leg(a, b, kinds, run, place))

    def plain_leg(self, a, b, kinds, run, place):
        found = []
        while True:
            places = [i for i in range(place, run + 1) if good(a, b, kinds, run, run - i + 1)]
            if not places:
                return found
            found.append(places[0])
            place = places[0] + a

    def test_a_leg_lasts_in_a_sound_climate(self):
        for a, b in lacquer_pairs(6):
            for kinds in SOME:
                lacquer, climate = Lacquer(a, b), Climate(kinds)
                if is_sound(lacquer, climate):
                    for run in (1, 3, 9, 14, 30):
                        coats = leg(lacquer, climate, run, 1)
                        self.assertTrue(all(a <= k - i <= b for i, k in zip(coats, coats[1:])))
                        self.assertGreater(coats[-1] + b, run + climate.longest(run))

    def test_empty_leg(self):
        lacquer, climate = Lacquer(4, 5), Climate([(6, 5)])
        self.assertEqual(good_places(lacquer, climate, 5), [])
        self.assertEqual(leg(lacquer, climate, 5, 1), [])

    def test_unsound_climates_are_not_refused(self):
        self.assertIs(is_good(Lacquer(4, 5), Climate([(2, 4)]), 4, 4), False)
        self.assertIs(is_good(Lacquer(4, 5), Climate([(2, 4)]), 4, 3), True)

    def test_longest_runs(self):
        self.assertIs(is_good(*EXAMPLE, 400, 400), True)
        self.assertEqual(len(good_places(Lacquer(4, 5), Climate([]), 400)), 400)
        self.assertEqual(leg(Lacquer(4, 5), Climate([]), 400, 400), [400])
        self.assertEqual(leg(Lacquer(1, 2), Climate([]), 400, 1), list(range(1, 401)))

    def test_wrong_numbers(self):
        wrong = ((is_good, (5, 0)), (is_good, (5, -1)), (is_good, (5, 6)), (is_good, (401, 1)), (is_good, (401, 401)),
                 (is_good, (0, 0)), (good_places, (0,)), (good_places, (-1,)), (good_places, (401,)),
                 (leg, (5, 0)), (leg, (5, 6)), (leg, (401, 5)), (leg, (401, 401)), (leg, (0, 0)), (leg, (0, 1)))
        for ask, numbers in wrong:
            with self.subTest(ask=ask, numbers=numbers), self.assertRaises(BadNumber) as caught:
                ask(*EXAMPLE, *numbers)
            self.assertIsInstance(caught.exception, DampError)


if __name__ == "__main__":
    unittest.main()
