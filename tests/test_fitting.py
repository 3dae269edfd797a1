from random import Random
import unittest

from dampspells.base.errors import BadNumber, DampError, TooLarge
from dampspells.half.diary import Diary
from dampspells.half.fitting import fitting
from dampspells.sky.climate import Climate
from tests.plain import all_worlds, fits, some_kinds, some_marks


def does_fit(marks, kinds, a, b):
    return any(fits(marks, world) for world in all_worlds(a, b, kinds, len(marks)))


class Fitting(unittest.TestCase):
    def test_against_all_worlds(self):
        dice = Random(511)
        seen = set()
        for at, kinds in enumerate(some_kinds(512, 25, 4, 5)):
            hours = dice.choice([1, 3, 5, 7])
            for marks in some_marks(513 + at, 3, hours):
                for most in (2, 4, 6):
                    expected = []
                    for a in range(1, most):
                        fitting_b = [b for b in range(a + 1, most + 1) if does_fit(marks, kinds, a, b)]
                        expected.append(fitting_b[0] if fitting_b else None)
                        # Point [48]: from some least b on.
                        self.assertEqual(fitting_b, list(range(most + 1 - len(fitting_b), most + 1)))
                    self.assertEqual(fitting(Diary(marks), Climate(kinds), most), expected)
                    seen.update(expected)
        self.assertEqual(seen, {None, 2, 3, 4, 5, 6})

    def test_by_hand(self):
        climate = Climate([(2, 5)])
        self.assertEqual(fitting(Diary("c....c"), climate, 6), [5, 5, 5, 5, 6])
        self.assertEqual(fitting(Diary("c....c"), climate, 4), [None, None, None])
        self.assertEqual(fitting(Diary("c???"), climate, 2), [2])
        self.assertEqual(fitting(Diary("c###"), climate, 6), [None] * 5)
        self.assertEqual(fitting(Diary("c"), climate, 6), [2, 3, 4, 5, 6])
        self.assertEqual(fitting(Diary("cc"), climate, 6), [2, None, None, None, None])

    def test_many_hours(self):
        climate = Climate([(w, w + 4) for w in range(1, 9)])
        self.assertEqual(fitting(Diary.blank(20), climate, 6), [2, 3, 4, 5, 6])
        self.assertEqual(fitting(Diary("c" + "-" * 5 + "?" * 14), climate, 6), [6] * 5)

    def test_errors_in_their_order(self):
        large = [(Diary.blank(21), Climate([])), (Diary.blank(30), Climate([])), (Diary("c"), Climate([(1, 13)])),
                 (Diary("c"), Climate([(9, 1)]))]
        for most in (1, 7, 0, -1, 10 ** 9):
            for diary, climate in large + [(Diary("c?"), Climate([(2, 5)]))]:
                with self.assertRaises(BadNumber) as caught:
                    fitting(diary, climate, most)
                self.assertIsInstance(caught.exception, DampError)
        for most in (2, 6):
            for diary, climate in large:
                with self.assertRaises(TooLarge) as caught:
                    fitting(diary, climate, most)
                self.assertIsInstance(caught.exception, DampError)
        self.assertEqual(fitting(Diary.blank(20), Climate([(8, 12)]), 2), [2])

    def test_lists_are_new(self):
        asked = (Diary("c?"), Climate([(2, 5)]), 3)
        fitting(*asked).clear()
        self.assertEqual(fitting(*asked), [2, 3])


if __name__ == "__main__":
    unittest.main()
