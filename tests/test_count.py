import unittest

from dampspells.base.errors import BadNumber, DampError, TooLarge
from dampspells.base.lacquer import Lacquer
from dampspells.far.count import kept_weathers, weathers
from dampspells.lead.spoilers import least_spoiler
from dampspells.lead.tops import greatest
from dampspells.lead.verdict import is_sound
from dampspells.sky.climate import Climate
from dampspells.web.closed import shortest_spoiler
from dampspells.web.stepset import StepSet
from tests.plain import lacquer_pairs, signs_of, some_kinds, some_steps, spoils_steps


class Weathers(unittest.TestCase):
    def test_against_all_weathers(self):
        for kinds in some_kinds(231, 25, 6, 8) + [[(16, 1)], [(1, 120)], [(3, 12), (16, 16)]]:
            for n in (1, 2, 3, 6, 11):
                self.assertEqual(weathers(Climate(kinds), n), len(signs_of(kinds, n)))

    def test_many_hours(self):
        for n in (1, 2, 10, 199, 200):
            self.assertEqual(weathers(Climate([]), n), 1)
            # Each further hour up to the 15th spell hour in a row is free.
            if n <= 17:
                self.assertEqual(weathers(Climate([(16, 1)]), n), 2 ** (n - 1))
            # A single damp hour after each dry one: Fibonacci's numbers.
            self.assertEqual(weathers(Climate([(1, 1)]), n), fibonacci(n))
        self.assertEqual(weathers(Climate([(16, 1)]), 18), 2 ** 17 - 1)
        self.assertEqual(weathers(Climate([(1, 120)]), 120), 1)
        self.assertEqual(weathers(Climate([(1, 120)]), 121), 2)
        # One spell at most: it begins in hour 121 to 200, and its length is 1 or 2 if there is room.
        self.assertEqual(weathers(Climate([(2, 120)]), 200), 1 + 79 * 2 + 1)
        whole = Climate([(w, 100 + w) for w in range(1, 17)])
        self.assertGreater(weathers(whole, 200), weathers(whole, 199))

    def test_wrong_numbers(self):
        for n in (0, 201, -1, 10 ** 9):
            with self.assertRaises(BadNumber) as caught:
                weathers(Climate([(2, 5)]), n)
            self.assertIsInstance(caught.exception, DampError)


class KeptWeathers(unittest.TestCase):
    def test_against_all_weathers(self):
        lost = 0
        for steps, kinds in zip(some_steps(232, 30, 8), some_kinds(233, 30, 5, 6)):
            for n in (1, 2, 5, 9, 11):
                kept = sum(not spoils_steps(steps, signs) for signs in signs_of(kinds, n))
                self.assertEqual(kept_weathers(StepSet(steps), Climate(kinds), n), kept)
                lost += kept < weathers(Climate(kinds), n)
        self.assertGreater(lost, 20)

    def test_kept_step_sets_and_sound_climates(self):
        for steps, kinds in zip(some_steps(234, 40, 8), some_kinds(235, 40, 6, 9)):
            step_set, climate = StepSet(steps), Climate(kinds)
            spoiler = shortest_spoiler(step_set, climate)
            for n in (1, 7, 13, 20, 39, 40):
                spoils = spoiler is not None and n >= len(spoiler)
                self.assertIs(kept_weathers(step_set, climate, n) < weathers(climate, n), spoils)
        for a, b in lacquer_pairs(6):
            for kinds in some_kinds(236, 12, 5, 8):
                lacquer, climate = Lacquer(a, b), Climate(kinds)
                spoiler = least_spoiler(lacquer, climate)
                self.assertIs(spoiler is None, is_sound(lacquer, climate))
                for n in range(1, 21):
                    all_kept = kept_weathers(StepSet.of(lacquer), climate, n) == weathers(climate, n)
                    self.assertIs(all_kept, spoiler is None or n < spoiler.hours)

    def test_many_hours(self):
        self.assertEqual(kept_weathers(StepSet([8]), Climate([]), 40), 1)
        lacquer = Lacquer(2, 5)
        self.assertEqual(kept_weathers(StepSet.of(lacquer), greatest(lacquer), 40), weathers(greatest(lacquer), 40))
        # Only the hours 8 and 15 count for the one step of 7: both are dry, and so is 1.
        self.assertEqual(kept_weathers(StepSet([7]), Climate([(8, 1)]), 8), 2 ** 6)
        self.assertEqual(kept_weathers(StepSet([7]), Climate([(7, 1)]), 15), 2 ** 12)
        self.assertGreater(kept_weathers(StepSet([1, 8]), Climate([(8, 12), (1, 1)]), 40), 10 ** 5)

    def test_errors_in_their_order(self):
        large = [Climate([(1, 13)]), Climate([(9, 1)])]
        for n in (0, 41, -1, 200, 10 ** 9):
            for climate in large + [Climate([(2, 5)])]:
                with self.assertRaises(BadNumber) as caught:
                    kept_weathers(StepSet([1, 2]), climate, n)
                self.assertIsInstance(caught.exception, DampError)
        for n in (1, 40):
            for climate in large:
                with self.assertRaises(TooLarge) as caught:
                    kept_weathers(StepSet([1, 2]), climate, n)
                self.assertIsInstance(caught.exception, DampError)
        self.assertEqual(kept_weathers(StepSet([1, 2]), Climate([(8, 12)]), 1), 1)


def fibonacci(n):
    one, other = 1, 1
    for _ in range(n - 1):
        one, other = other, one + other
    return other if n > 1 else 1


if __name__ == "__main__":
    unittest.main()
