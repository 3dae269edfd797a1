from random import Random
import unittest

from dampspells.base.errors import BadNumber, DampError, TooLarge
from dampspells.base.lacquer import Lacquer
from dampspells.lead.verdict import sight_needed
from dampspells.play.alike import habits_part
from dampspells.play.habits import Habit, rule_habit
from dampspells.play.judge import habit_stands, play, spoils, spoilt_count
from dampspells.sky.climate import Climate
from dampspells.sky.weather import Weather
from dampspells.web.stepset import StepSet
from tests.plain import (all_signs, habit_plays, habit_says, is_of, lacquer_pairs, need_of, signs_of, sky, some_habits,
                         some_kinds, some_steps, texts_after)

HABITS = some_habits(111, 60) + [(0, []), (2, []), (5, [])]
STEPS = some_steps(112, 12, 5) + [[2, 3], [1, 2], [6]]
KINDS = some_kinds(113, 15, 2, 4, 2)
CASES = [(*HABITS[at % len(HABITS)], STEPS[at % 15], KINDS[at * 7 % 15]) for at in range(120)]
SHORT = [signs for hours in range(1, 12) for signs in all_signs(hours)]


def parts_of(case):
    sight, rows, steps, kinds = case
    return Habit(sight, rows), StepSet(steps), Climate(kinds)


def stand(sight, rows, steps, kinds, signs):
    """Point [32], word for word: the stand in the hour before those that are seen ahead; None if the work is spoilt."""
    coats, spoilt = habit_plays(sight, rows, steps, signs)
    hour = len(signs) - sight
    if spoilt is not None:
        return None
    run = hour - 1 - signs.rfind("#", 0, hour)
    cap = max([1, need_of(kinds)] + [row[1] for row in rows])
    return hour - coats[-1], min(run, cap), signs[hour:], sky(kinds, signs)


def plain_stands(sight, rows, steps, kinds):
    texts = ["." + text for text in texts_after(kinds, ".", sight)]
    found = [stand(sight, rows, steps, kinds, text) for text in texts]
    for signs in texts:
        for sign in texts_after(kinds, signs, 1):
            later = stand(sight, rows, steps, kinds, signs + sign)
            if later is None:
                return None
            if later not in found:
                found.append(later)
                texts.append(signs + sign)
    return found


class Plays(unittest.TestCase):
    def test_all_short_weathers(self):
        for sight, rows, steps, kinds in CASES[:60]:
            for signs in SHORT[::13] + SHORT[-40:]:
                coats, spoilt = play(Habit(sight, rows), StepSet(steps), Weather.of_signs(signs))
                self.assertEqual((coats, spoilt), habit_plays(sight, rows, steps, signs))

    def test_by_hand(self):
        steps = StepSet([2, 3])
        self.assertEqual(play(Habit.eager(0), steps, Weather([7])), ([1, 3, 5, 7], None))
        self.assertEqual(play(Habit.eager(2), steps, Weather([7])), ([1, 3, 5], None))
        self.assertEqual(play(Habit.eager(0), steps, Weather([3, 3, 2])), ([1, 3], 6))
        self.assertEqual(play(Habit.eager(2), steps, Weather([3, 3, 2])), ([1, 3], 6))
        self.assertEqual(play(Habit.eager(3), steps, Weather([3, 3, 2])), ([1, 3], None))
        self.assertEqual(play(Habit(0, [(0, 1, "", False)]), steps, Weather([9])), ([1], 4))

    def test_few_hours(self):
        for sight in range(6):
            for hours in range(1, sight + 2):
                self.assertEqual(play(Habit.eager(sight), StepSet([1]), Weather([hours])), ([1], None))
            self.assertEqual(play(Habit.eager(sight), StepSet([1]), Weather([sight + 2])), ([1, 2], None))
        self.assertEqual(play(Habit.eager(0), StepSet([1]), Weather([1, 1])), ([1], 2))

    def test_dry_hours_are_counted_to_the_end(self):
        habit = Habit(0, [(0, 8, "", False)])
        self.assertEqual(play(habit, StepSet([3, 8]), Weather([20])), ([1, 4, 7], 15))
        self.assertEqual(play(habit, StepSet([3, 8]), Weather([7, 1, 12])), ([1, 4, 7, 10, 13], None))

    def test_long_weathers_and_far_steps(self):
        self.assertEqual(play(Habit.eager(5), StepSet([8]), Weather([200])), (list(range(1, 196, 8)), None))
        self.assertEqual(play(Habit.eager(0), StepSet([7, 8]), Weather([8, 16, 1])), ([1, 8], 16))

    def test_lists_are_new(self):
        asked = (Habit.eager(0), StepSet([2]), Weather([5]))
        play(*asked)[0].append(77)
        self.assertEqual(play(*asked), ([1, 3, 5], None))


class Spoiling(unittest.TestCase):
    def test_against_all_short_weathers(self):
        many = [0, 0]
        for case in CASES:
            sight, rows, steps, kinds = case
            told = spoils(*parts_of(case))
            found = next((signs for signs in SHORT if is_of(kinds, signs)
                          and habit_plays(sight, rows, steps, signs)[1] is not None), None)
            if found is None:
                self.assertTrue(told is None or len(told) > 11, (case, told))
            else:
                self.assertEqual(told, found, case)
            many[told is None] += 1
        self.assertTrue(min(many) > 15, many)

    def test_what_is_told_spoils(self):
        for case in CASES:
            sight, rows, steps, kinds = case
            told = spoils(*parts_of(case))
            if told is not None:
                self.assertTrue(is_of(kinds, told))
                self.assertEqual(habit_plays(sight, rows, steps, told)[1], len(told) - sight)

    def test_below_the_lead_and_in_unsound_climates(self):
        habits = [Habit(sight, rows) for sight, rows in some_habits(114, 20, 5)]
        for a, b in lacquer_pairs(6):
            for kinds in some_kinds(115, 12, 4, 8, 2):
                needed = sight_needed(Lacquer(a, b), Climate(kinds))
                for habit in habits[::3]:
                    if needed is None or habit.sight < needed:
                        self.assertIsNotNone(spoils(habit, StepSet.of(Lacquer(a, b)), Climate(kinds)))

    def test_by_hand(self):
        steps, climate = StepSet([4, 5]), Climate([(2, 5)])
        self.assertEqual(spoils(Habit.eager(0), steps, climate), "........##")
        self.assertEqual(spoils(Habit.eager(3), steps, climate), "........##...")
        self.assertIsNone(spoils(rule_habit(Lacquer(4, 5), climate), steps, climate))
        self.assertEqual(spoils(Habit(1, [(0, 1, "?", False)]), StepSet([1]), Climate([])), "...")
        self.assertEqual(spoils(Habit.eager(0), StepSet([1]), Climate([(1, 2)])), "..#")
        self.assertEqual(spoils(Habit.eager(1), StepSet([1]), Climate([(1, 2)])), "..#.")


class Stands(unittest.TestCase):
    def test_against_the_words_of_the_document(self):
        many = 0
        for case in CASES:
            told = habit_stands(*parts_of(case))
            self.assertEqual(told is None, spoils(*parts_of(case)) is not None)
            self.assertEqual(told, plain_stands(*case))
            many += told is not None
        self.assertGreater(many, 15)

    def test_by_hand(self):
        self.assertEqual(habit_stands(Habit.eager(0), StepSet([1]), Climate([])), [(0, 1, "", ("dry", 1))])
        self.assertEqual(habit_stands(Habit.eager(1), StepSet([1, 2]), Climate([(1, 1)])), [
            (0, 1, ".", ("dry", 1)), (0, 1, "#", ("damp", 0)), (1, 0, ".", ("dry", 1))])
        # The numbers of dry hours in the rows count up to their greatest one.
        habit = Habit(0, [(0, 3, "", True)])
        self.assertEqual(habit_stands(habit, StepSet([1]), Climate([])), [
            (0, 1, "", ("dry", 1)), (0, 2, "", ("dry", 1)), (0, 3, "", ("dry", 1))])

    def test_lists_are_new(self):
        asked = (Habit.eager(0), StepSet([1]), Climate([]))
        habit_stands(*asked).clear()
        self.assertEqual(len(habit_stands(*asked)), 1)


class Counts(unittest.TestCase):
    def test_against_all_short_weathers(self):
        for case in CASES[::3]:
            sight, rows, steps, kinds = case
            for n in range(1, 11):
                many = sum(habit_plays(sight, rows, steps, signs)[1] is not None for signs in signs_of(kinds, n))
                self.assertEqual(spoilt_count(*parts_of(case), n), many)

    def test_edges(self):
        lazy = Habit(3, [(0, 1, "???", False)])
        for n, many in ((1, 0), (4, 0), (5, 0), (6, 1), (30, 1)):
            self.assertEqual(spoilt_count(lazy, StepSet([2]), Climate([]), n), many)
        self.assertEqual(spoilt_count(Habit.eager(0), StepSet([1]), Climate([(6, 1)]), 2), 1)
        # All weathers but the one without damp hours.
        self.assertEqual(spoilt_count(Habit.eager(0), StepSet([1]), Climate([(1, 1)]), 3), 2)

    def test_thirty_hours(self):
        told = spoilt_count(Habit.eager(5), StepSet([5, 6]), Climate([(1, 1), (3, 4), (6, 8)]), 30)
        self.assertTrue(1000 < told < 2 ** 29)

    def test_numbers(self):
        large = (Habit.eager(0), StepSet([8]), Climate([(9, 9)]))
        for asked in (large, (Habit.eager(0), StepSet([1]), Climate([]))):
            for n in (0, -1, 31, 10 ** 9):
                with self.assertRaises(BadNumber) as caught:
                    spoilt_count(*asked, n)
                self.assertIsInstance(caught.exception, DampError)
        with self.assertRaises(TooLarge):
            spoilt_count(*large, 1)


class Sizes(unittest.TestCase):
    def test_too_large(self):
        for steps, climate in ((StepSet([1, 7]), Climate([])), (StepSet([8]), Climate([])),
                               (StepSet([1]), Climate([(1, 9)])), (StepSet([1]), Climate([(7, 1)]))):
            for ask, more in ((spoils, ()), (habit_stands, ()), (spoilt_count, (5,))):
                with self.assertRaises(TooLarge) as caught:
                    ask(Habit.eager(0), steps, climate, *more)
                self.assertIsInstance(caught.exception, DampError)
            with self.assertRaises(TooLarge):
                habits_part(Habit.eager(0), Habit.eager(0), steps, climate)
        for ask, more in ((spoils, ()), (habit_stands, ()), (spoilt_count, (30,))):
            ask(Habit.eager(5), StepSet([5, 6]), Climate([(6, 8)]), *more)


class Parting(unittest.TestCase):
    def pairs(self):
        dice = Random(116)
        return [(dice.choice(HABITS), dice.choice(HABITS), dice.choice(STEPS), dice.choice(KINDS)) for _ in range(80)]

    def test_against_all_short_weathers(self):
        many = [0, 0]
        for one, other, steps, kinds in self.pairs():
            fitting = (signs for signs in SHORT if is_of(kinds, signs))
            found = next((signs for signs in fitting if self.part(one, other, steps, signs)), None)
            told = habits_part(Habit(*one), Habit(*other), StepSet(steps), Climate(kinds))
            if found is None:
                self.assertTrue(told is None or len(told) > 11)
            else:
                self.assertEqual(told, found)
            self.assertEqual(habits_part(Habit(*other), Habit(*one), StepSet(steps), Climate(kinds)), told)
            many[told is None] += 1
        self.assertTrue(min(many) > 10, many)

    def part(self, one, other, steps, signs):
        """Whether just one of them lays a coat in the last hour before those that are seen, but not earlier."""
        hour = len(signs) - max(one[0], other[0])
        coats, spoilt = habit_plays(*one, steps, signs[:hour + one[0]])
        others, spoilt_other = habit_plays(*other, steps, signs[:hour + other[0]])
        early = [spoilt is not None and spoilt < hour, spoilt_other is not None and spoilt_other < hour]
        return hour >= 2 and not any(early) and coats != others and [coat for coat in coats if coat < hour] == [
            coat for coat in others if coat < hour]

    def test_by_hand(self):
        steps, climate = StepSet([2, 3]), Climate([(1, 1)])
        lazy = Habit(1, [(2, 1, "#", False)])
        self.assertEqual(habits_part(Habit.eager(0), lazy, steps, climate), "...#")
        self.assertEqual(habits_part(Habit.eager(3), lazy, steps, climate), "...#..")
        self.assertIsNone(habits_part(Habit.eager(0), lazy, steps, Climate([])))
        self.assertIsNone(habits_part(Habit.eager(0), Habit.eager(5), steps, climate))
        # Hour 2 is the only one with a coat of the one, and spoils the work of the other one.
        never = Habit(0, [(0, 1, "", False)])
        self.assertEqual(habits_part(Habit.eager(0), never, StepSet([1]), climate), "..")
        # Both are spoilt in hour 4 before they could part.
        waits = Habit(0, [(0, 4, "", True), (0, 1, "", False)])
        self.assertIsNone(habits_part(never, waits, StepSet([2]), Climate([])))
        self.assertEqual(habits_part(never, waits, StepSet([2, 3]), Climate([])), "....")

    def test_different_sights(self):
        near, far = Habit(0, [(2, 1, "", False)]), Habit(4, [(2, 1, "...?", False)])
        steps, climate = StepSet([2, 3]), Climate([(1, 3)])
        self.assertEqual(habits_part(near, far, steps, climate), ".....#.")
        self.assertEqual(habits_part(far, near, steps, climate), ".....#.")
        between = Habit(2, [(2, 1, "..", False)])
        self.assertEqual(habits_part(between, far, steps, climate), ".....#.")
        self.assertEqual(habits_part(between, near, steps, climate), "....#")


if __name__ == "__main__":
    unittest.main()
