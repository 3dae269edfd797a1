import unittest

from dampspells.base.errors import BadNumber, DampError
from dampspells.base.lacquer import Lacquer
from dampspells.compare.cabinet import greatest_for, no_worse, parting_kind
from dampspells.lead.tops import greatest
from dampspells.sky.climate import Climate
from tests.plain import is_sound_pair, lacquer_pairs

PAIRS = lacquer_pairs(12)
KINDS = [(w, g) for g in range(1, 121) for w in range(1, 17)]
SOUND = {(a, b): {kind for kind in KINDS if is_sound_pair(a, b, *kind)} for a, b in PAIRS}
CHOICES = [[(1, 2)], [(4, 5), (4, 5)], [(2, 5), (1, 4)], [(4, 5), (2, 3), (3, 9)], [(11, 12), (1, 12)], PAIRS,
           [(6, 12), (5, 9), (3, 4), (2, 11)]]


class GreatestFor(unittest.TestCase):
    def test_its_kinds_are_those_that_are_sound_for_all(self):
        for pairs in CHOICES:
            told = greatest_for(*[Lacquer(a, b) for a, b in pairs])
            self.assertIsInstance(told, Climate)
            common = [kind for kind in KINDS if all(kind in SOUND[pair] for pair in pairs)]
            self.assertEqual([(w, g) for w, g in KINDS if w <= told.longest(g)], common)

    def test_one_and_the_same_twice(self):
        for a, b in PAIRS:
            lacquer = Lacquer(a, b)
            self.assertEqual(greatest_for(lacquer), greatest(lacquer))
            self.assertEqual(greatest_for(lacquer, lacquer), greatest(lacquer))

    def test_none(self):
        with self.assertRaises(BadNumber) as caught:
            greatest_for()
        self.assertIsInstance(caught.exception, DampError)


class Comparisons(unittest.TestCase):
    def test_against_all_kinds(self):
        seen = set()
        for one in PAIRS:
            for other in PAIRS:
                # The least g first, and then the least w.
                first = min(SOUND[one] - SOUND[other], key=lambda kind: kind[::-1], default=None)
                self.assertEqual(parting_kind(Lacquer(*one), Lacquer(*other)), first)
                told = no_worse(Lacquer(*one), Lacquer(*other))
                self.assertIs(told, SOUND[other] <= SOUND[one])
                seen.add((told, no_worse(Lacquer(*other), Lacquer(*one))))
        self.assertEqual(seen, {(True, True), (True, False), (False, True), (False, False)})

    def test_example(self):
        self.assertEqual(parting_kind(Lacquer(2, 5), Lacquer(1, 4)), (4, 3))
        self.assertIsNone(parting_kind(Lacquer(1, 4), Lacquer(2, 5)))
        self.assertIs(no_worse(Lacquer(2, 5), Lacquer(1, 4)), True)
        self.assertIs(no_worse(Lacquer(1, 4), Lacquer(2, 5)), False)

    def test_neither_is_no_worse(self):
        one, other = Lacquer(4, 5), Lacquer(1, 3)
        self.assertIs(no_worse(one, other), False)
        self.assertIs(no_worse(other, one), False)
        self.assertEqual(parting_kind(one, other), (3, 9))
        self.assertEqual(parting_kind(other, one), (2, 1))


if __name__ == "__main__":
    unittest.main()
