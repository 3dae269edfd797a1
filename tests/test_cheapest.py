from itertools import product
from random import Random
import unittest

from dampspells.base.errors import BadPrice, DampError
from dampspells.base.lacquer import Lacquer
from dampspells.lead.verdict import is_sound
from dampspells.mend.cheapest import cheapest
from dampspells.sky.climate import Climate
from tests.plain import is_sound_pair, lacquer_pairs, some_kinds

NO_PRICES = {"price_a": 0, "price_b": 0, "price_w": 0, "price_g": 0}


def all_changes(a, b, kinds, prices, further):
    """(cost, a', b', kinds') of all changes that are sound and raise no g by more than `further`; None is removed."""
    for new_a, new_b in product(range(1, a + 1), range(b, 13)):
        told = []
        for w, g in kinds:
            removed = [(w * prices["price_w"], None)]
            told.append(removed + [((w - v) * prices["price_w"] + (r - g) * prices["price_g"], (v, r))
                                   for v in range(1, w + 1) for r in range(g, min(120, g + further) + 1)
                                   if is_sound_pair(new_a, new_b, v, r)])
        base = (a - new_a) * prices["price_a"] + (new_b - b) * prices["price_b"]
        for chosen in product(*told):
            yield base + sum(cost for cost, _ in chosen), new_a, new_b, [kind for _, kind in chosen]


def rank(change):
    """Point [40]: the order of the changes."""
    cost, a, b, kinds = change
    rows = [(-kind[0], kind[1]) if kind is not None else (0, 0) for kind in kinds]
    return cost, -a, b, rows


class Cheapest(unittest.TestCase):
    def test_example(self):
        self.assertEqual(cheapest(Lacquer(4, 5), Climate([(2, 4)])), (1, 4, 5, [(2, 5)]))

    def test_against_all_changes(self):
        dice = Random(221)
        changed = [0, 0, 0, 0]
        for kinds in some_kinds(222, 70, 4, 6, 2):
            a, b = dice.choice(lacquer_pairs(5))
            plain_list = list(Climate(kinds).kinds)
            # One price is low, so that each number is changed in some of the cases.
            prices = {name: dice.choice([1, 2, 3, 5, 1000]) for name in NO_PRICES}
            prices[dice.choice(["price_a", "price_g", *NO_PRICES])] = dice.choice([0, 1])
            # Leads are at most (4 - 1) * 4 here: no run needs more than 12 hours more.
            best = min(all_changes(a, b, plain_list, prices, 12), key=rank)
            told = cheapest(Lacquer(a, b), Climate(kinds), **prices)
            self.assertEqual(told, best)
            self.assertIsInstance(told, tuple)
            for at, other in enumerate([told[1] != a, told[2] != b, [w for w, g in told[3]] != [w for w, g in plain_list],
                                        [g for w, g in told[3]] != [g for w, g in plain_list]]):
                changed[at] += other
        self.assertTrue(min(changed) > 3, changed)

    def test_sound_climates_cost_nothing(self):
        dice = Random(223)
        seen = set()
        for kinds in some_kinds(224, 80, 11, 60):
            for a, b in dice.sample(lacquer_pairs(12), 10):
                prices = {name: dice.randint(1, 1000) for name in NO_PRICES}
                lacquer, climate = Lacquer(a, b), Climate(kinds)
                cost, new_a, new_b, new_kinds = cheapest(lacquer, climate, **prices)
                self.assertIs(cost == 0, is_sound(lacquer, climate))
                if cost == 0:
                    self.assertEqual((new_a, new_b, new_kinds), (a, b, list(climate.kinds)))
                self.assertTrue(all(is_sound_pair(new_a, new_b, w, g) for w, g in new_kinds))
                seen.add(cost == 0)
        self.assertEqual(seen, {True, False})

    def test_without_prices(self):
        # Of the changes that cost nothing the greatest a, the least b, the greatest w and the least g are taken.
        self.assertEqual(cheapest(Lacquer(4, 5), Climate([(2, 4)]), **NO_PRICES), (0, 4, 5, [(2, 5)]))
        self.assertEqual(cheapest(Lacquer(4, 5), Climate([(6, 4)]), **NO_PRICES), (0, 4, 5, [(4, 13)]))
        self.assertEqual(cheapest(Lacquer(4, 5), Climate([]), **NO_PRICES), (0, 4, 5, []))

    def test_some_prices_of_0(self):
        lacquer, climate = Lacquer(4, 5), Climate([(2, 4)])
        self.assertEqual(cheapest(lacquer, climate, price_a=0), (0, 3, 5, [(2, 4)]))
        self.assertEqual(cheapest(lacquer, climate, price_b=0), (0, 4, 6, [(2, 4)]))
        self.assertEqual(cheapest(lacquer, climate, price_w=0), (0, 4, 5, [(1, 4)]))
        self.assertEqual(cheapest(lacquer, climate, price_g=0), (0, 4, 5, [(2, 5)]))

    def test_changes_that_cost_as_much(self):
        lacquer, climate = Lacquer(4, 5), Climate([(2, 4)])
        # Lower a, raise b, lower w or raise g by 1: a stays, then b stays, then w stays.
        self.assertEqual(cheapest(lacquer, climate, price_g=2), (1, 4, 5, [(1, 4)]))
        self.assertEqual(cheapest(lacquer, climate, price_g=2, price_w=2), (1, 4, 6, [(2, 4)]))
        self.assertEqual(cheapest(lacquer, climate, price_g=2, price_w=2, price_b=2), (1, 3, 5, [(2, 4)]))
        self.assertEqual(cheapest(lacquer, climate, price_a=1000, price_g=1000, price_w=1000, price_b=1000),
                         (1000, 4, 5, [(2, 5)]))

    def test_only_a_shorter_spell(self):
        # No run is long enough for a spell of 16 hours, and b is 12 at most.
        self.assertEqual(cheapest(Lacquer(1, 12), Climate([(16, 1)])), (5, 1, 12, [(11, 1)]))
        self.assertEqual(cheapest(Lacquer(11, 12), Climate([(16, 120)])), (5, 11, 12, [(11, 120)]))
        cost, a, b, kinds = cheapest(Lacquer(4, 5), Climate([(16, 1)]), price_w=1000, price_a=1000)
        self.assertEqual((cost, a, b, kinds), (5 * 1000 + 7 + 4, 4, 12, [(11, 5)]))
        self.assertEqual(cheapest(Lacquer(1, 2), Climate([(16, 1)]), price_b=1000, price_w=0), (0, 1, 2, [(1, 1)]))

    def test_kinds_in_the_order_of_the_plain_list(self):
        climate = Climate([(4, 9), (1, 2), (2, 4), (2, 8)])
        self.assertEqual(cheapest(Lacquer(4, 5), climate), (1, 4, 6, [(1, 2), (2, 4), (4, 9)]))
        self.assertEqual(cheapest(Lacquer(4, 5), climate, price_a=9, price_b=9),
                         (2, 4, 5, [(1, 2), (2, 5), (3, 9)]))
        self.assertEqual(cheapest(Lacquer(4, 5), climate, price_a=9, price_b=9, price_w=9),
                         (5, 4, 5, [(1, 2), (2, 5), (4, 13)]))

    def test_wrong_prices(self):
        for name in NO_PRICES:
            for price in (-1, 1001, 10 ** 9):
                for kinds in ([], [(2, 4)]):
                    with self.assertRaises(BadPrice) as caught:
                        cheapest(Lacquer(4, 5), Climate(kinds), **{name: price})
                    self.assertIsInstance(caught.exception, DampError)
            for price in (0, 1000):
                cheapest(Lacquer(4, 5), Climate([(2, 4)]), **{name: price})

    def test_prices_are_passed_by_name_alone(self):
        with self.assertRaises(TypeError):
            cheapest(Lacquer(4, 5), Climate([(2, 4)]), 1)

    def test_lists_are_new(self):
        asked = (Lacquer(4, 5), Climate([(2, 4)]))
        cheapest(*asked)[3].append(77)
        self.assertEqual(cheapest(*asked)[3], [(2, 5)])


if __name__ == "__main__":
    unittest.main()
