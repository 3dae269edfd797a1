import re
import unittest

from dampspells.base.errors import DampError, Unsound
from dampspells.base.lacquer import Lacquer
from dampspells.lead.verdict import is_sound, lead_of
from dampspells.play.habits import Habit
from dampspells.play.judge import spoils
from dampspells.play.trap import trap, trap_weather
from dampspells.sky.climate import Climate
from dampspells.web.stepset import StepSet
from tests.plain import habit_plays, is_of, lacquer_pairs, some_habits, some_kinds

HABITS = some_habits(121, 40, 5) + [(sight, []) for sight in range(6)]
SOUND = [(a, b, kinds) for a, b in lacquer_pairs(12) for kinds in some_kinds(122, 25, 9, 60, 3)
         if is_sound(Lacquer(a, b), Climate(kinds))]


class Traps(unittest.TestCase):
    def test_triples(self):
        self.assertGreater(len(SOUND), 200)
        for a, b, kinds in SOUND:
            lacquer, climate = Lacquer(a, b), Climate(kinds)
            lead = lead_of(lacquer, climate)
            for sight in {0, lead - 1, lead, lead + 1, 5} - {-1}:
                told = trap(lacquer, climate, sight)
                if sight >= lead:
                    self.assertIsNone(told)
                else:
                    first = next((w, g) for w, g in climate.kinds if lacquer.lead(w) == lead)
                    self.assertEqual(told, (*first, lead))

    def test_by_hand(self):
        lacquer, climate = Lacquer(4, 6), Climate([(1, 2), (3, 7), (4, 9)])
        self.assertEqual(trap(lacquer, climate, 0), (3, 7, 4))
        self.assertEqual(trap(lacquer, climate, 3), (3, 7, 4))
        self.assertIsNone(trap(lacquer, climate, 4))
        self.assertIsNone(trap(lacquer, Climate([]), 0))
        self.assertIsNone(trap(lacquer, Climate([(2, 1)]), 0))

    def test_weather_by_hand(self):
        lacquer, climate = Lacquer(4, 5), Climate([(2, 5)])
        # Coats in the hours 1, 5 and then none in the hours 9 and 10.
        self.assertEqual(trap_weather(Habit.eager(0), lacquer, climate), "." * 8 + "##")
        self.assertEqual(trap_weather(Habit.eager(3), lacquer, climate), "." * 8 + "##...")
        self.assertIsNone(trap_weather(Habit.eager(4), lacquer, climate))
        lazy = Habit(1, [(0, 1, "?", False)])
        self.assertEqual(trap_weather(lazy, lacquer, climate), "." * 7)
        late = Habit(0, [(4, 1, "", False)])
        self.assertEqual(trap_weather(late, lacquer, climate), "." * 9 + "##")


class TrapWeathers(unittest.TestCase):
    def test_what_is_told(self):
        shapes = []
        for at, (a, b, kinds) in enumerate(SOUND):
            lacquer, climate = Lacquer(a, b), Climate(kinds)
            for sight, rows in HABITS[at % 5::5]:
                told = trap_weather(Habit(sight, rows), lacquer, climate)
                found = trap(lacquer, climate, sight)
                self.assertEqual(told is None, found is None)
                if told is not None:
                    shapes.append(self.check(sight, rows, a, b, kinds, found, told))
        self.assertTrue(min(shapes.count(True), shapes.count(False)) > 20)

    def check(self, sight, rows, a, b, kinds, found, told):
        """Point [34], word for word; returns whether a damp hour comes."""
        w, g, f = found
        self.assertTrue(is_of(kinds, told))
        coats, spoilt = habit_plays(sight, rows, range(a, b + 1), told)
        self.assertEqual(spoilt, len(told) - sight)
        late = [hour for hour in coats if hour >= g]
        if not late:
            self.assertEqual(set(told), {"."})
            return False
        self.assertLessEqual(spoilt, late[0] + f + w - 1)
        weather = "." * (late[0] + f - 1) + "#" * w + "." * 40
        self.assertEqual(told, weather[:spoilt + sight])
        return "#" in told

    def test_more_than_200_signs(self):
        lacquer, climate = Lacquer(11, 12), Climate([(11, 120)])
        told = trap_weather(Habit.eager(5), lacquer, climate)
        self.assertTrue(re.fullmatch(r"\.+#+\.*", told))
        self.assertGreater(len(told), 200)
        self.check(5, [], 11, 12, [(11, 120)], (11, 120, 110), told)

    def test_it_spoils(self):
        for a, b, kinds in SOUND:
            climate = Climate(kinds)
            if b <= 6 and climate.need <= 8 and lead_of(Lacquer(a, b), climate) > 0:
                for sight, rows in HABITS[::6]:
                    told = trap_weather(Habit(sight, rows), Lacquer(a, b), climate)
                    if told is not None:
                        self.assertLessEqual(len(spoils(Habit(sight, rows), StepSet(range(a, b + 1)), climate)),
                                             len(told))

    def test_unsound(self):
        climate = Climate([(1, 1), (2, 4), (5, 9)])
        for sight in (0, 4, 99):
            with self.assertRaises(Unsound) as caught:
                trap(Lacquer(4, 5), climate, sight)
            self.assertEqual(caught.exception.kind, (2, 4))
            self.assertIsInstance(caught.exception, DampError)
        for sight in (0, 5):
            with self.assertRaises(Unsound) as caught:
                trap_weather(Habit.eager(sight), Lacquer(4, 5), climate)
            self.assertEqual(caught.exception.kind, (2, 4))


if __name__ == "__main__":
    unittest.main()
