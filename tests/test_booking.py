import unittest

from dampspells.base.errors import BadNumber, DampError, Strange, TooLarge, Unsound
from dampspells.base.lacquer import Lacquer
from dampspells.lead.verdict import booking_needed, is_sound
from dampspells.play.booking import booked_row, sure_booking
from dampspells.sky.climate import Climate
from dampspells.sky.weather import Weather
from dampspells.told.rule import rule_row
from dampspells.web.stepset import StepSet
from tests.plain import booker_is_sure, lacquer_pairs, signs_of, some_kinds, some_steps

PAIRS = lacquer_pairs(6)


class Sureness(unittest.TestCase):
    def test_lacquers(self):
        seen = []
        for a, b in PAIRS:
            for kinds in some_kinds(91, 8, 6, 8, 3):
                lacquer, climate = Lacquer(a, b), Climate(kinds)
                needed = booking_needed(lacquer, climate)
                for sight in range((a + b) % 2, 8, 2):
                    told = sure_booking(StepSet.of(lacquer), climate, sight)
                    self.assertIs(told, needed is not None and sight >= needed)
                    seen.append(told)
        self.assertTrue(min(seen.count(True), seen.count(False)) > 50)

    def test_the_least_sight(self):
        for a, b in PAIRS:
            for kinds in some_kinds(92, 25, 4, 8, 2):
                needed = booking_needed(Lacquer(a, b), Climate(kinds))
                steps = StepSet.of(Lacquer(a, b))
                if needed is not None and needed <= 7:
                    self.assertIs(sure_booking(steps, Climate(kinds), needed), True)
                    self.assertIs(sure_booking(steps, Climate(kinds), needed - 1), False)

    def test_by_trying_all_ways_of_choosing(self):
        seen = []
        for steps in ([1], [1, 2], [2], [2, 3], [1, 3], [1, 2, 3], [2, 4]):
            for kinds in ([], [(1, 1)], [(1, 2)], [(2, 1)], [(1, 1), (2, 2)], [(2, 2)], [(1, 1), (2, 3)]):
                for sight in range(6):
                    told = sure_booking(StepSet(steps), Climate(kinds), sight)
                    self.assertIs(told, booker_is_sure(steps, kinds, sight, 14))
                    seen.append((told, sight))
        self.assertEqual(len(set(seen)), 11)

    def test_more_sight_is_never_worse(self):
        for steps, kinds in zip(some_steps(93, 15, 6), some_kinds(94, 15, 3, 8, 2)):
            told = [sure_booking(StepSet(steps), Climate(kinds), sight) for sight in range(8)]
            self.assertEqual(told, sorted(told))

    def test_edges_of_the_sight(self):
        for a, b in PAIRS:
            steps = StepSet.of(Lacquer(a, b))
            told = [sure_booking(steps, Climate([]), sight) for sight in (0, a - 1, a, a + 1)]
            self.assertEqual(told, [False, False, True, True])
        steps, climate = StepSet([4, 5]), Climate([(1, 5)])
        self.assertEqual([sure_booking(steps, climate, v) for v in (3, 4, 5, 6)], [False, False, True, True])
        self.assertEqual([sure_booking(StepSet([2, 3]), Climate([(2, 5)]), v) for v in range(3, 7)],
                         [False, True, True, True])

    def test_wrong_sights(self):
        for steps, climate in ((StepSet([4, 5]), Climate([])), (StepSet([8]), Climate([(9, 9)]))):
            for sight in (-1, -50):
                with self.assertRaises(BadNumber) as caught:
                    sure_booking(steps, climate, sight)
                self.assertIsInstance(caught.exception, DampError)

    def test_sizes(self):
        small = (StepSet([6]), Climate([(6, 8)]), 7)
        sure_booking(*small)
        for at, large in ((0, StepSet([1, 7])), (1, Climate([(1, 9)])), (1, Climate([(7, 1)])), (2, 8), (2, 10 ** 9)):
            asked = list(small)
            asked[at] = large
            with self.assertRaises(TooLarge) as caught:
                sure_booking(*asked)
            self.assertIsInstance(caught.exception, DampError)


class BookedRows(unittest.TestCase):
    def test_rule_rows_of_the_nearer_lacquer(self):
        many = 0
        for a, b in PAIRS:
            for kinds in some_kinds(95, 16, 5, 7, 2):
                lacquer, climate = Lacquer(a, b), Climate(kinds)
                needed = booking_needed(lacquer, climate)
                if needed is not None:
                    for sight in {max(needed, a + 1), needed + 1, b, b + 1} - set(range(needed)) - {a}:
                        nearer = Lacquer(a, min(b, sight))
                        self.assertIs(is_sound(nearer, climate), True)
                        for signs in signs_of(kinds, 10)[::9]:
                            weather = Weather.of_signs(signs)
                            told = booked_row(lacquer, climate, sight, weather)
                            self.assertEqual(told, rule_row(nearer, climate, weather))
                            self.check_what_is_known(lacquer, climate, sight, signs, told)
                            many += 1
        self.assertGreater(many, 500)

    def check_what_is_known(self, lacquer, climate, sight, signs, row):
        for hour, later in zip(row, row[1:]):
            self.assertLessEqual(later, hour + sight)
            told = booked_row(lacquer, climate, sight, Weather.of_signs(signs[:hour + sight]))
            self.assertEqual(told[:row.index(later) + 1], row[:row.index(later) + 1])

    def test_by_hand(self):
        lacquer, climate, weather = Lacquer(4, 5), Climate([(2, 5)]), Weather([5, 2, 5, 2, 1])
        self.assertEqual(booked_row(lacquer, climate, 8, weather), [1, 5, 10, 15])
        self.assertEqual(booked_row(Lacquer(2, 7), Climate([(1, 5)]), 3, Weather([5, 1, 3])), [1, 3, 5, 7, 9])
        self.assertEqual(booked_row(Lacquer(2, 12), Climate([]), 1000, Weather([6])), [1, 3, 5])
        self.assertEqual(booked_row(Lacquer(11, 12), Climate([(1, 1)]), 12, Weather([11, 1, 1])), [1, 13])

    def test_large_lacquers(self):
        lacquer, climate = Lacquer(11, 12), Climate([(11, 111)])
        self.assertEqual(booking_needed(lacquer, climate), 121)
        weather = Weather([120, 11, 60])
        self.assertEqual(booked_row(lacquer, climate, 121, weather), rule_row(lacquer, climate, weather))
        with self.assertRaises(BadNumber):
            booked_row(lacquer, climate, 120, weather)

    def test_order_of_the_errors(self):
        strange = Weather([4, 2, 1])
        for sight in (-1, 4, 8):
            with self.assertRaises(Unsound) as caught:
                booked_row(Lacquer(4, 5), Climate([(2, 4)]), sight, strange)
            self.assertEqual(caught.exception.kind, (2, 4))
        for sight in (-1, 0, 3, 4, 5, 7):
            with self.assertRaises(BadNumber) as caught:
                booked_row(Lacquer(4, 5), Climate([(2, 5)]), sight, strange)
            self.assertIsInstance(caught.exception, DampError)
        with self.assertRaises(Strange) as caught:
            booked_row(Lacquer(4, 5), Climate([(2, 5)]), 8, strange)
        self.assertEqual(caught.exception.hour, 5)

    def test_a_sight_of_a_is_not_enough(self):
        for sight in (3, 4):
            with self.assertRaises(BadNumber):
                booked_row(Lacquer(4, 5), Climate([]), sight, Weather([9]))
        self.assertEqual(booked_row(Lacquer(4, 5), Climate([]), 5, Weather([9])), [1, 5, 9])


if __name__ == "__main__":
    unittest.main()
