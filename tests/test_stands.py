from itertools import combinations
import unittest

from dampspells.base.errors import DampError, Strange
from dampspells.sky.climate import Climate
from dampspells.sky.member import breach
from dampspells.sky.weather import Weather
from dampspells.web.stands import first_stand, next_stand, stand_after
from dampspells.web.stepset import StepSet
from tests.plain import is_of, signs_up_to, some_kinds, some_steps, spoils_steps, stand

SIGNS = signs_up_to(9)
CASES = list(zip(some_steps(51, 24, 8) + [[1], [8], [2, 3, 5]], some_kinds(52, 27, 5, 6)))


class Stands(unittest.TestCase):
    def test_first_stand(self):
        self.assertEqual(first_stand(), (("dry", 1), (0,)))

    def test_example(self):
        after = next_stand(StepSet([2, 3]), Climate([(2, 1)]), (("dry", 1), (0,)), "#")
        self.assertEqual(after, (("damp", 1), (1,)))

    def test_all_short_weathers(self):
        for steps, kinds in CASES:
            step_set, climate = StepSet(steps), Climate(kinds)
            for signs in SIGNS:
                if is_of(kinds, signs):
                    before = stand(steps, kinds, signs)
                    self.assertEqual(stand_after(step_set, climate, Weather.of_signs(signs)), before)
                    self.assertEqual(before[1] == (), spoils_steps(steps, signs))
                    for sign in ".#":
                        later = stand(steps, kinds, signs + sign) if is_of(kinds, signs + sign) else None
                        self.assertEqual(next_stand(step_set, climate, before, sign), later)

    def test_strange_weathers(self):
        for steps, kinds in CASES[::4]:
            for signs in SIGNS[:200]:
                if not is_of(kinds, signs):
                    weather = Weather.of_signs(signs)
                    with self.assertRaises(Strange) as caught:
                        stand_after(StepSet(steps), Climate(kinds), weather)
                    self.assertEqual(caught.exception.hour, breach(Climate(kinds), weather))
                    self.assertIsInstance(caught.exception, DampError)

    def test_all_ages(self):
        climate = Climate([(2, 3)])
        for steps in ([2, 3, 5], [8], [1], [4, 5, 6, 7, 8]):
            far = max(steps)
            for many in range(far + 1):
                for ages in combinations(range(far), many):
                    older = tuple(x + 1 for x in ages if x + 1 < far)
                    laid = any(x + 1 in steps for x in ages)
                    told = next_stand(StepSet(steps), climate, (("dry", 3), ages), ".")
                    self.assertEqual(told, (("dry", 3), (0,) * laid + older))
                    told = next_stand(StepSet(steps), climate, (("dry", 3), ages), "#")
                    self.assertEqual(told, (("damp", 1), older))

    def test_skies(self):
        steps, climate = StepSet([4, 5]), Climate([(2, 3), (5, 7)])
        skies = {(("dry", 1), "."): ("dry", 2), (("dry", 6), "."): ("dry", 7), (("dry", 7), "."): ("dry", 7),
                 (("damp", 0), "."): ("dry", 1), (("damp", 4), "."): ("dry", 1), (("dry", 2), "#"): None,
                 (("dry", 3), "#"): ("damp", 1), (("dry", 6), "#"): ("damp", 1), (("dry", 7), "#"): ("damp", 4),
                 (("damp", 4), "#"): ("damp", 3), (("damp", 1), "#"): ("damp", 0), (("damp", 0), "#"): None}
        for (sky, sign), after in skies.items():
            told = next_stand(steps, climate, (sky, (1,)), sign)
            self.assertEqual(told, after and (after, (2,)))
            self.assertEqual(next_stand(steps, climate, (sky, ()), sign), after and (after, ()))

    def test_no_kinds(self):
        self.assertEqual(next_stand(StepSet([1]), Climate([]), first_stand(), "."), (("dry", 1), (0,)))
        self.assertIsNone(next_stand(StepSet([1]), Climate([]), first_stand(), "#"))
        self.assertEqual(stand_after(StepSet([3]), Climate([]), Weather([200])), (("dry", 1), (1,)))

    def test_long_runs(self):
        climate = Climate([(1, 120)])
        self.assertEqual(stand_after(StepSet([1]), climate, Weather([119])), (("dry", 119), (0,)))
        self.assertEqual(stand_after(StepSet([1]), climate, Weather([200])), (("dry", 120), (0,)))
        self.assertEqual(stand_after(StepSet([1]), climate, Weather([120, 1, 5])), (("dry", 5), ()))


if __name__ == "__main__":
    unittest.main()
