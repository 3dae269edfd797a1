from itertools import islice
from random import Random
import unittest

from dampspells.base.errors import BadHour, BadNumber, DampError, NoWorld, TooLarge
from dampspells.base.lacquer import Lacquer
from dampspells.half.diary import Diary
from dampspells.half.worlds import (coats_until, letters_at, parting_worlds, sharpest, world_at, world_count,
                                    worlds)
from dampspells.sky.climate import Climate
from tests.plain import MARKS, all_worlds, fits, is_of, is_row_of, lacquer_pairs, some_kinds, some_marks

LARGE_CLIMATES = [Climate([(1, 13)]), Climate([(9, 1)]), Climate([(16, 120)])]
FULL = Climate([(w, w + 4) for w in range(1, 9)])
ASKED = [(Diary("c???"), Lacquer(2, 3), Climate([(1, 1)]))]


def cases():
    dice = Random(501)
    for at, kinds in enumerate(some_kinds(502, 60, 4, 5)):
        hours = dice.choice([1, 2, 4, 6, 7])
        a, b = dice.choice(lacquer_pairs(5))
        for marks in some_marks(503 + at, 4, hours) + ["c" + "?" * (hours - 1)]:
            fitting = [world for world in all_worlds(a, b, kinds, hours) if fits(marks, world)]
            yield Diary(marks), Lacquer(a, b), Climate(kinds), fitting


class Worlds(unittest.TestCase):
    def test_against_all_worlds(self):
        none = some = 0
        for diary, lacquer, climate, fitting in cases():
            asked = (diary, lacquer, climate)
            self.assertEqual(world_count(*asked), len(fitting))
            self.assertEqual(list(worlds(*asked)), fitting)
            if fitting:
                some += 1
                for place, world in enumerate(fitting):
                    self.assertEqual(world_at(*asked, place), world)
                for place in (-1, -len(fitting), len(fitting), 10 ** 20):
                    with self.assertRaises(BadNumber) as caught:
                        world_at(*asked, place)
                    self.assertIsInstance(caught.exception, DampError)
            else:
                none += 1
        self.assertTrue(none > 40 and some > 100, (none, some))

    def test_letters_and_parting_worlds(self):
        seen = set()
        for diary, lacquer, climate, fitting in cases():
            for hour in range(1, diary.size + 1) if fitting else []:
                asked = (diary, lacquer, climate, hour)
                letters = [letter for letter in "c.#" if any(world[hour - 1] == letter for world in fitting)]
                self.assertEqual(letters_at(*asked), letters)
                firsts = [next(world for world in fitting if world[hour - 1] == letter) for letter in letters]
                self.assertEqual(parting_worlds(*asked), tuple(firsts[:2]) if len(firsts) > 1 else None)
                seen.add("".join(letters))
        self.assertEqual(seen, set(MARKS.values()))

    def test_sharpest(self):
        for diary, lacquer, climate, fitting in cases():
            if fitting:
                told = sharpest(diary, lacquer, climate)
                self.assertIsInstance(told, Diary)
                found = ["".join(sorted({world[at] for world in fitting}, key="c.#".index))
                         for at in range(diary.size)]
                self.assertEqual([MARKS[mark] for mark in told.marks], found)
                self.assertEqual(list(worlds(told, lacquer, climate)), fitting)

    def test_coats_until(self):
        apart = 0
        for diary, lacquer, climate, fitting in cases():
            for hour in range(1, diary.size + 1) if fitting else []:
                many = [world[1:hour].count("c") for world in fitting]
                self.assertEqual(coats_until(diary, lacquer, climate, hour), (min(many), max(many)))
                apart += min(many) < max(many)
        self.assertGreater(apart, 50)

    def test_examples(self):
        asked = (Diary("c??#?"), Lacquer(2, 3), Climate([(1, 1)]))
        self.assertEqual(sharpest(*asked).marks, "c-c#o")
        self.assertEqual(list(worlds(*asked)), ["c.c#c", "c.c#.", "c#c#c", "c#c#."])
        self.assertEqual(letters_at(*asked, 2), [".", "#"])
        self.assertEqual(parting_worlds(*asked, 2), ("c.c#c", "c#c#c"))
        self.assertEqual(parting_worlds(*asked, 5), ("c.c#c", "c.c#."))
        self.assertIsNone(parting_worlds(*asked, 3))
        self.assertEqual([coats_until(*asked, hour) for hour in range(1, 6)], [(0, 0), (0, 0), (1, 1), (1, 1), (1, 2)])

    def test_three_letters(self):
        asked = (Diary("c??"), Lacquer(1, 3), Climate([(1, 1)]))
        self.assertEqual(letters_at(*asked, 3), ["c", ".", "#"])
        self.assertEqual(parting_worlds(*asked, 3), ("ccc", "cc."))
        self.assertEqual(sharpest(*asked).marks, "c??")

    def test_one_hour(self):
        asked = (Diary("c"), Lacquer(4, 5), Climate([(2, 5)]))
        self.assertEqual((world_count(*asked), list(worlds(*asked)), world_at(*asked, 0)), (1, ["c"], "c"))
        self.assertEqual((letters_at(*asked, 1), parting_worlds(*asked, 1), coats_until(*asked, 1)),
                         (["c"], None, (0, 0)))
        self.assertEqual(sharpest(*asked).marks, "c")


class ManyHours(unittest.TestCase):
    def test_counts_and_places(self):
        dice = Random(504)
        for a, b in ((1, 2), (1, 12), (4, 9), (11, 12)):
            asked = (Diary.blank(30), Lacquer(a, b), FULL)
            many = world_count(*asked)
            for place in [0, 1, many - 1, many // 3, dice.randrange(many), dice.randrange(many)]:
                world = world_at(*asked, place)
                self.assertTrue(is_of(FULL.kinds, world.replace("c", ".")) and is_row_of(a, b, world))
                # All worlds before this one: those that part from it at some hour with a letter that comes before.
                before = 0
                for at in range(1, 30):
                    for letter in "c.#"[:"c.#".index(world[at])]:
                        before += world_count(Diary(world[:at] + letter + "?" * (29 - at)), Lacquer(a, b), FULL)
                self.assertEqual(before, place)
            self.assertEqual(list(islice(worlds(*asked), 40)), [world_at(*asked, place) for place in range(min(many, 40))])
            with self.assertRaises(BadNumber):
                world_at(*asked, many)

    def test_known_numbers(self):
        # Without damp hours the worlds are the keepings: a coat in each hour or each other one.
        self.assertEqual(world_count(Diary.blank(30), Lacquer(1, 2), Climate([])), 1346269)
        self.assertEqual(world_count(Diary("c" * 30), Lacquer(1, 2), FULL), 1)
        self.assertEqual(coats_until(Diary.blank(30), Lacquer(1, 12), Climate([]), 30), (2, 29))
        self.assertEqual(sharpest(Diary("c" + "?" * 28 + "#"), Lacquer(11, 12), Climate([(8, 12)])).size, 30)


class Errors(unittest.TestCase):
    def ask_all(self, diary, climate, hour, place):
        lacquer = Lacquer(2, 3)
        return {"count": lambda: world_count(diary, lacquer, climate),
                "worlds": lambda: list(worlds(diary, lacquer, climate)),
                "at": lambda: world_at(diary, lacquer, climate, place),
                "letters": lambda: letters_at(diary, lacquer, climate, hour),
                "parting": lambda: parting_worlds(diary, lacquer, climate, hour),
                "sharpest": lambda: sharpest(diary, lacquer, climate),
                "coats": lambda: coats_until(diary, lacquer, climate, hour)}

    def check(self, error, ask):
        with self.assertRaises(error) as caught:
            ask()
        self.assertIsInstance(caught.exception, DampError)

    def test_too_large_comes_first(self):
        for climate in LARGE_CLIMATES:
            for marks in ("c???", "cc"):
                for ask in self.ask_all(Diary(marks), climate, 0, -1).values():
                    self.check(TooLarge, ask)
        for ask in self.ask_all(Diary("c???"), Climate([(8, 12)]), 4, 0).values():
            ask()

    def test_no_world_comes_next(self):
        # Two coats next to each other, and damp hours where the climate has none.
        for marks in ("cc", "c.#", "c###", "c?...", "c??#"):
            for hour, place in ((0, -1), (1, 0), (99, 99)):
                asks = self.ask_all(Diary(marks), Climate([(1, 4)]), hour, place)
                self.assertEqual((asks["count"](), asks["worlds"]()), (0, []))
                for name in ("at", "letters", "parting", "sharpest", "coats"):
                    self.check(NoWorld, asks[name])

    def test_hours(self):
        for hour in (0, 5, -1, 10 ** 9):
            asks = self.ask_all(Diary("c???"), Climate([(1, 4)]), hour, 0)
            for name in ("letters", "parting", "coats"):
                self.check(BadHour, asks[name])
        for hour in (1, 4):
            for ask in self.ask_all(Diary("c???"), Climate([(1, 4)]), hour, 0).values():
                ask()

    def test_lists_are_new(self):
        asked = (Diary("c???"), Lacquer(2, 3), Climate([(1, 1)]))
        for hour in (1, 2):
            told = letters_at(*asked, hour)
            letters_at(*asked, hour).append("z")
            self.assertEqual(letters_at(*asked, hour), told)


if __name__ == "__main__":
    unittest.main()
