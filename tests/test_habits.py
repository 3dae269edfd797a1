from itertools import product
import unittest

from dampspells.base.errors import BadHabit, DampError, TooLarge, Unsound
from dampspells.base.lacquer import Lacquer
from dampspells.lead.verdict import is_sound, lead_of
from dampspells.play.habits import Habit, rule_habit
from dampspells.play.judge import play, spoils
from dampspells.sky.climate import Climate
from dampspells.sky.weather import Weather
from dampspells.told.rule import rule_row
from dampspells.web.stepset import StepSet
from tests.plain import habit_says, lacquer_pairs, most_damp, signs_of, some_habits, some_kinds

PAIRS = lacquer_pairs(6)
SOUND = [(a, b, kinds) for a, b in PAIRS for kinds in some_kinds(101, 40, 4, 8, 3)
         if is_sound(Lacquer(a, b), Climate(kinds)) and lead_of(Lacquer(a, b), Climate(kinds)) <= 5]


def plain_rows(a, b, kinds):
    """Point [33], word for word."""
    lead = max([((w + b - a - 1) // (b - a) - 1) * a for w, g in kinds], default=0)
    rows = []
    for h in range(1, lead + 1):
        runs = [g for w, g in kinds if w > -(-h // a) * b - h]
        if runs:
            rows.append((0, max(1, min(runs) - h + 1), "." * (h - 1) + "#" + "?" * (lead - h), False))
    return lead, tuple(rows)


class Habits(unittest.TestCase):
    def test_example(self):
        self.assertIs(Habit(1, [(0, 2, "#", False)])(3, 2, "#"), False)
        self.assertIs(Habit(1, [(0, 2, "#", False)])(3, 1, "#"), True)
        self.assertIs(Habit(1, [(0, 2, "#", False)])(3, 2, "."), True)
        self.assertIs(Habit(1, [(0, 2, "#", False)])(3, 9, "#"), False)

    def test_attributes(self):
        rows = [(0, 2, "#", False), (8, 8, "?", True)]
        habit = Habit(1, rows)
        self.assertEqual(habit.sight, 1)
        self.assertEqual(habit.rows, ((0, 2, "#", False), (8, 8, "?", True)))
        rows.append((1, 1, ".", True))
        self.assertEqual(len(habit.rows), 2)
        self.assertEqual(len(rows), 3)

    def test_ages(self):
        habit = Habit(0, [(3, 1, "", False)])
        self.assertEqual([habit(age, 1, "") for age in range(1, 13)], [True, True, False] + [True] * 9)
        habit = Habit(0, [(0, 1, "", False)])
        self.assertEqual([habit(age, 1, "") for age in range(1, 13)], [False] * 12)

    def test_the_first_row_that_fits(self):
        rows = [(0, 3, ".?", True), (2, 1, "??", False), (0, 1, ".#", True), (0, 1, "..", False)]
        habit = Habit(2, rows)
        self.assertIs(habit(2, 3, ".#"), True)
        self.assertIs(habit(2, 2, ".#"), False)
        self.assertIs(habit(3, 2, ".#"), True)
        self.assertIs(habit(3, 2, ".."), False)
        self.assertIs(habit(3, 2, "#."), True)

    def test_against_the_words_of_the_document(self):
        seen = []
        for sight, rows in some_habits(102, 60, 3, 8):
            habit = Habit(sight, rows)
            for signs in product(".#", repeat=sight):
                for age, dry in product(range(1, 6), repeat=2):
                    told = habit(age, dry, "".join(signs))
                    self.assertIs(told, habit_says(sight, rows, age, dry, "".join(signs)))
                    seen.append(told)
        self.assertTrue(min(seen.count(True), seen.count(False)) > 500)

    def test_eager(self):
        for sight in range(6):
            habit = Habit.eager(sight)
            self.assertEqual((habit.sight, habit.rows), (sight, ()))
            self.assertIs(habit(1, 1, "#" * sight), True)

    def test_bounds(self):
        for sight in range(6):
            for age in (0, 1, 8):
                for dry in (1, 8):
                    for mark in ".#?":
                        row = (age, dry, mark * sight, True)
                        self.assertEqual(Habit(sight, [row] * 40).rows, (row,) * 40)

    def test_wrong_habits(self):
        good = (0, 1, "?", False)
        wrong = [(-1, []), (6, []), (10 ** 9, []), (-1, [(0, 1, "", False)]), (1, [good] * 41)]
        wrong += [(0, [good]), (2, [good])]
        wrong += [(1, [row]) for row in ((-1, 1, "?", False), (9, 1, "?", False), (0, 0, "?", False),
                                         (0, -1, "?", False), (0, 9, "?", False), (0, 1, "", False),
                                         (0, 1, "??", False), (0, 1, "x", False), (0, 1, " ", False),
                                         (0, 1, "c", True), (0, 1, "?"), (0, 1, "?", True, True), (0, 1, "?", None))]
        wrong += [(2, [(0, 1, "??", False), (0, 1, text, False)]) for text in (".", "?x", "...", "#\n")]
        for sight, rows in wrong:
            with self.subTest(sight=sight, rows=rows), self.assertRaises(BadHabit) as caught:
                Habit(sight, rows)
            self.assertIsInstance(caught.exception, DampError)
        for sight in (-1, 6):
            with self.assertRaises(BadHabit):
                Habit.eager(sight)


class RuleHabits(unittest.TestCase):
    def test_by_hand(self):
        habit = rule_habit(Lacquer(4, 5), Climate([(2, 5)]))
        self.assertEqual((habit.sight, habit.rows), (4, ((0, 2, "...#", False),)))
        habit = rule_habit(Lacquer(1, 2), Climate([(1, 1)]))
        self.assertEqual((habit.sight, habit.rows), (0, ()))
        habit = rule_habit(Lacquer(2, 3), Climate([(2, 5)]))
        self.assertEqual((habit.sight, habit.rows), (2, ((0, 4, ".#", False),)))
        self.assertEqual(rule_habit(Lacquer(3, 5), Climate([])).rows, ())

    def test_rows(self):
        self.assertGreater(len(SOUND), 150)
        for a, b, kinds in SOUND:
            habit = rule_habit(Lacquer(a, b), Climate(kinds))
            self.assertEqual((habit.sight, habit.rows), plain_rows(a, b, kinds))

    def test_it_lays_the_coats_of_the_rule(self):
        for a, b, kinds in SOUND[::3]:
            lacquer, climate = Lacquer(a, b), Climate(kinds)
            habit, steps = rule_habit(lacquer, climate), StepSet.of(lacquer)
            self.assertIsNone(spoils(habit, steps, climate))
            for signs in signs_of(kinds, 11)[::5]:
                weather = Weather.of_signs(signs)
                row = [hour for hour in rule_row(lacquer, climate, weather) if hour <= max(1, 11 - habit.sight)]
                self.assertEqual(play(habit, steps, weather), (row, None))

    def test_a_needless_kind_does_not_count(self):
        one = rule_habit(Lacquer(4, 5), Climate([(2, 5)]))
        self.assertEqual(rule_habit(Lacquer(4, 5), Climate([(2, 5), (1, 7), (2, 8)])).rows, one.rows)

    def test_errors(self):
        with self.assertRaises(Unsound) as caught:
            rule_habit(Lacquer(11, 12), Climate([(9, 120), (12, 120), (2, 11)]))
        self.assertEqual(caught.exception.kind, (2, 11))
        self.assertIsInstance(caught.exception, DampError)
        large = ((Lacquer(6, 7), Climate([])), (Lacquer(1, 12), Climate([])), (Lacquer(5, 6), Climate([(1, 9)])),
                 (Lacquer(3, 4), Climate([(3, 7)])), (Lacquer(1, 8), Climate([(7, 1)])))
        for lacquer, climate in large:
            with self.assertRaises(TooLarge) as caught:
                rule_habit(lacquer, climate)
            self.assertIsInstance(caught.exception, DampError)

    def test_at_the_bounds(self):
        self.assertEqual(rule_habit(Lacquer(5, 6), Climate([(2, 8)])).sight, 5)
        self.assertEqual(rule_habit(Lacquer(1, 6), Climate([(5, 8)])).sight, 0)
        self.assertGreater(most_damp([(5, 8)], 8), 4)


if __name__ == "__main__":
    unittest.main()
