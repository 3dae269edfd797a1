from itertools import product
import unittest

from dampspells.base.errors import BadSteps, DampError, TooLarge
from dampspells.base.lacquer import Lacquer
from dampspells.web.stepset import StepSet
from tests.plain import lacquer_pairs


class StepSets(unittest.TestCase):
    def test_steps(self):
        steps = StepSet([5, 2, 3, 2])
        self.assertEqual(steps.steps, (2, 3, 5))
        self.assertEqual(steps.farthest, 5)
        self.assertEqual(list(steps), [2, 3, 5])
        self.assertEqual(StepSet([8, 1]).steps, (1, 8))
        self.assertEqual(StepSet([4]).farthest, 4)
        self.assertEqual(StepSet([7] * 500).steps, (7,))

    def test_all_small_lists(self):
        for many in range(1, 4):
            for given in product(range(1, 9), repeat=many):
                steps = StepSet(list(given))
                self.assertEqual(steps.steps, tuple(sorted(set(given))))
                self.assertEqual(steps.farthest, max(given))

    def test_members(self):
        steps = StepSet([2, 3, 5])
        for step in range(-3, 12):
            self.assertIs(step in steps, step in (2, 3, 5))
            self.assertIs(step not in steps, step not in (2, 3, 5))

    def test_equality(self):
        self.assertIs(StepSet([2, 3]) == StepSet([3, 2, 3]), True)
        self.assertIs(StepSet([2, 3]) == StepSet([2]), False)
        self.assertIs(StepSet([1, 8]) == StepSet([1, 7]), False)

    def test_union(self):
        one, other = StepSet([5, 2]), StepSet([2, 3])
        self.assertEqual((one | other).steps, (2, 3, 5))
        self.assertEqual((one.steps, other.steps), ((2, 5), (2, 3)))
        self.assertEqual((StepSet([1]) | StepSet([8])).farthest, 8)

    def test_the_list_may_change_later(self):
        given = [2, 3]
        steps = StepSet(given)
        self.assertEqual(given, [2, 3])
        given.append(8)
        self.assertEqual(steps.steps, (2, 3))

    def test_wrong_steps(self):
        for wrong in ([], [0], [9], [-1], [1, 9], [0, 8], [1, 2, 3, -10 ** 20], [10 ** 20]):
            with self.subTest(wrong), self.assertRaises(BadSteps) as caught:
                StepSet(wrong)
            self.assertIsInstance(caught.exception, DampError)

    def test_of_a_lacquer(self):
        for a, b in lacquer_pairs(12):
            if b <= 8:
                self.assertEqual(StepSet.of(Lacquer(a, b)).steps, tuple(range(a, b + 1)))
            else:
                with self.assertRaises(TooLarge) as caught:
                    StepSet.of(Lacquer(a, b))
                self.assertIsInstance(caught.exception, DampError)


if __name__ == "__main__":
    unittest.main()
