from random import Random
import unittest

from dampspells.base.errors import DampError, TooLarge
from dampspells.base.lacquer import Lacquer
from dampspells.lead.spoilers import least_spoiler
from dampspells.lead.verdict import is_sound
from dampspells.sky.climate import Climate
from dampspells.web.closed import closed_list, list_holds, shortest_spoiler
from dampspells.web.stands import first_stand, next_stand
from dampspells.web.stepset import StepSet
from tests.plain import all_signs, is_of, lacquer_pairs, some_kinds, some_steps, spoils_steps

CASES = list(zip(some_steps(61, 60, 6) + some_steps(62, 30, 8), some_kinds(63, 90, 4, 6)))
KEPT = [(steps, kinds) for steps, kinds in CASES if shortest_spoiler(StepSet(steps), Climate(kinds)) is None]
TWO_TO_BLAME = (StepSet([2, 3, 5]), Climate([(1, 1), (2, 2)]))


def plain_list(steps, climate):
    """Point [25], word for word; None if a stand without ages comes up."""
    found = all_later(steps, climate, first_stand())
    return None if any(ages == () for _, ages in found) else found


def all_later(steps, climate, first):
    found = [first]
    for stand in found:
        for sign in ".#":
            later = next_stand(steps, climate, stand, sign)
            if later is not None and later not in found:
                found.append(later)
    return found


def plain_holds(steps, climate, stands):
    """Point [25], word for word."""
    later = [next_stand(steps, climate, stand, sign) for stand in stands for sign in ".#"]
    closed = all(stand in stands for stand in later if stand is not None)
    return first_stand() in stands and closed and all(ages for _, ages in stands)


class ClosedLists(unittest.TestCase):
    def test_against_the_words_of_the_document(self):
        self.assertTrue(20 < len(KEPT) < 70)
        for steps, kinds in CASES:
            step_set, climate = StepSet(steps), Climate(kinds)
            told = closed_list(step_set, climate)
            self.assertEqual(told, plain_list(step_set, climate))
            if told is not None:
                self.assertIs(list_holds(step_set, climate, told), True)

    def test_by_hand(self):
        self.assertEqual(closed_list(StepSet([1]), Climate([])), [(("dry", 1), (0,))])
        self.assertEqual(closed_list(StepSet([2]), Climate([])), [(("dry", 1), (0,)), (("dry", 1), (1,))])
        self.assertEqual(closed_list(StepSet([1, 2]), Climate([(1, 2)])), [
            (("dry", 1), (0,)), (("dry", 2), (0, 1)), (("damp", 0), (1,))])
        self.assertIsNone(closed_list(*TWO_TO_BLAME))

    def test_lacquers_are_kept_in_the_sound_climates(self):
        for a, b in lacquer_pairs(8):
            for kinds in some_kinds(64, 12, 8, 12):
                lacquer, climate = Lacquer(a, b), Climate(kinds)
                self.assertIs(closed_list(StepSet.of(lacquer), climate) is not None, is_sound(lacquer, climate))

    def test_lists_are_new(self):
        closed_list(StepSet([2]), Climate([])).clear()
        self.assertEqual(len(closed_list(StepSet([2]), Climate([]))), 2)

    def test_too_large(self):
        large = (Climate([(1, 13)]), Climate([(9, 1)]), Climate([(9, 13)]), Climate([(1, 1), (2, 120)]))
        for ask in (closed_list, shortest_spoiler):
            for climate in large:
                for steps in ([1], [8], [4, 5]):
                    with self.assertRaises(TooLarge) as caught:
                        ask(StepSet(steps), climate)
                    self.assertIsInstance(caught.exception, DampError)
            ask(StepSet([7, 8]), Climate([(8, 12)]))
            ask(StepSet([1]), Climate([(1, 1), (1, 50)]))

    def test_at_the_bounds(self):
        steps, climate = StepSet([3, 4, 5, 6, 7, 8]), Climate([(3, 1), (4, 5), (5, 10), (7, 12)])
        told = closed_list(steps, climate)
        self.assertEqual(told, plain_list(steps, climate))
        self.assertGreater(len(told), 200)
        self.assertIsNone(shortest_spoiler(steps, climate))


class Holding(unittest.TestCase):
    def test_order_and_repetition_do_not_matter(self):
        dice = Random(65)
        for steps, kinds in KEPT:
            stands = closed_list(StepSet(steps), Climate(kinds))
            mixed = stands + stands[:3]
            dice.shuffle(mixed)
            given = list(mixed)
            self.assertIs(list_holds(StepSet(steps), Climate(kinds), mixed), True)
            self.assertEqual(mixed, given)

    def test_no_stand_of_the_closed_list_can_be_left_out(self):
        for steps, kinds in KEPT:
            stands = closed_list(StepSet(steps), Climate(kinds))
            for at in range(0, len(stands), 1 + len(stands) // 30):
                self.assertIs(list_holds(StepSet(steps), Climate(kinds), stands[:at] + stands[at + 1:]), False)

    def test_edges(self):
        for steps, kinds in KEPT:
            step_set, climate = StepSet(steps), Climate(kinds)
            stands = closed_list(step_set, climate)
            self.assertIs(list_holds(step_set, climate, []), False)
            self.assertIs(list_holds(step_set, climate, stands + [(("dry", 1), ())]), False)

    def test_any_other_stands(self):
        dice = Random(66)
        seen = []
        for steps, kinds in CASES:
            step_set, climate = StepSet(steps), Climate(kinds)
            stands = list(closed_list(step_set, climate) or [first_stand()])
            for _ in range(4):
                ages = tuple(sorted(dice.sample(range(max(steps)), dice.randint(1, max(steps)))))
                sky = dice.choice([("dry", dice.randint(1, 9)), ("damp", dice.randint(0, 3))])
                more = stands + all_later(step_set, climate, (sky, ages))
                for given in (more, more[:-1], stands + [(sky, ages)]):
                    told = list_holds(step_set, climate, given)
                    self.assertIs(told, plain_holds(step_set, climate, given))
                    seen.append(told)
        self.assertTrue(seen.count(True) > 20 < seen.count(False))

    def test_strange_skies_count_too(self):
        steps, climate = StepSet([1]), Climate([])
        self.assertIs(list_holds(steps, climate, [first_stand(), (("dry", 40), (0,))]), True)
        self.assertIs(list_holds(steps, climate, [first_stand(), (("damp", 0), (0,))]), True)
        # A damp hour can follow, and it leaves no ages.
        self.assertIs(list_holds(steps, climate, [first_stand(), (("damp", 1), (0,))]), False)

    def test_large_climates_are_not_refused(self):
        steps, climate = StepSet([1, 2]), Climate([(1, 20)])
        stands = [(("dry", 1), (0,)), (("damp", 0), (1,))] + [(("dry", k), (0, 1)) for k in range(2, 21)]
        self.assertIs(list_holds(steps, climate, stands), True)
        self.assertIs(list_holds(steps, climate, stands[:-1]), False)
        self.assertIs(list_holds(steps, climate, [first_stand()] * 3), False)


class ShortestSpoilers(unittest.TestCase):
    def test_against_all_short_weathers(self):
        short = [signs for hours in range(1, 12) for signs in all_signs(hours)]
        many = 0
        for steps, kinds in CASES[::2]:
            found = next((signs for signs in short if spoils_steps(steps, signs) and is_of(kinds, signs)), None)
            told = shortest_spoiler(StepSet(steps), Climate(kinds))
            if found is None:
                self.assertTrue(told is None or len(told) > 11)
            else:
                self.assertEqual(told, found)
                many += 1
        self.assertGreater(many, 15)

    def test_none_exactly_if_there_is_a_closed_list(self):
        for steps, kinds in CASES:
            told = shortest_spoiler(StepSet(steps), Climate(kinds))
            self.assertEqual(told is None, closed_list(StepSet(steps), Climate(kinds)) is not None)
            if told is not None:
                self.assertTrue(is_of(kinds, told) and spoils_steps(steps, told))
                self.assertFalse(spoils_steps(steps, told[:-1]))

    def test_lacquers(self):
        for a, b in lacquer_pairs(8):
            for kinds in some_kinds(67, 12, 8, 12):
                least = least_spoiler(Lacquer(a, b), Climate(kinds))
                told = shortest_spoiler(StepSet.of(Lacquer(a, b)), Climate(kinds))
                self.assertEqual(told, least and least.signs())

    def test_by_hand(self):
        self.assertEqual(shortest_spoiler(*TWO_TO_BLAME), "..##.#")
        self.assertEqual(shortest_spoiler(StepSet([1]), Climate([(1, 1)])), ".#")
        self.assertIsNone(shortest_spoiler(StepSet([1]), Climate([])))
        # All dry hours but every third one must stay dry.
        self.assertEqual(shortest_spoiler(StepSet([3]), Climate([(1, 5)])), "......#")


if __name__ == "__main__":
    unittest.main()
