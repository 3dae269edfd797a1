from random import Random
import unittest

from dampspells.base.errors import BadHour, BadPrice, DampError
from dampspells.base.lacquer import Lacquer
from dampspells.mend.heat import heat_labels, heating, labels_hold, warmed
from dampspells.sky.weather import Weather
from dampspells.told.reach import spoilt_hour
from dampspells.told.span import earliest
from tests.plain import all_signs, in_their_order, is_spoilt, keepings, lacquer_pairs, signs_up_to, step_rows

PAIRS = lacquer_pairs(4) + [(3, 5), (1, 6), (11, 12)]
EXAMPLE = (Lacquer(4, 5), Weather([4, 2, 3]), [1, 1, 1, 1, 7, 5, 1, 1, 1])
# The second price list has free damp hours and rows of equal cost.
PRICES = [[1000] * 12, [3, 0, 2, 0, 1, 1, 0, 2, 3, 1, 2, 0], [1, 5, 2, 4, 3, 3, 4, 2, 5, 1, 6, 2]]


def row_cost(signs, prices, row):
    return sum(prices[hour - 1] for hour in row if signs[hour - 1] == "#")


def all_dry(signs):
    return "." * len(signs)


def least_sums(a, b, signs, prices):
    """The labels of point [39], from all lists of hours."""
    sums = [None] * len(signs)
    for row in step_rows(range(a, b + 1), all_dry(signs)):
        at, cost = row[-1] - 1, row_cost(signs, prices, row)
        if sums[at] is None or cost < sums[at]:
            sums[at] = cost
    return sums


def plain_support(a, b, signs, prices, cost, labels):
    """Point [39], word for word."""
    n = len(signs)
    if labels[0] is None or labels[0] > 0:
        return False
    for p in range(1, n + 1):
        if labels[p - 1] is not None:
            for q in range(p + a, min(p + b, n) + 1):
                if labels[q - 1] is None:
                    return False
                if labels[q - 1] > labels[p - 1] + (prices[q - 1] if signs[q - 1] == "#" else 0):
                    return False
    return all(label is None or label >= cost for label in labels[max(0, n - b):])


class Heating(unittest.TestCase):
    def test_example(self):
        self.assertEqual(heating(*EXAMPLE), (5, [1, 6]))

    def test_against_all_warm_rows(self):
        dice = Random(301)
        several = 0
        for a, b in PAIRS:
            for signs in signs_up_to(7) + dice.sample(all_signs(9), 20):
                prices = dice.choice(PRICES)[:len(signs)]
                warm = in_their_order(keepings(a, b, all_dry(signs)))
                least = min(row_cost(signs, prices, row) for row in warm)
                cheapest = [row for row in warm if row_cost(signs, prices, row) == least]
                told = heating(Lacquer(a, b), Weather.of_signs(signs), prices)
                self.assertEqual(told, (least, cheapest[0]))
                self.assertIsInstance(told, tuple)
                several += len(cheapest) > 1
        self.assertGreater(several, 100)

    def test_unspoilt_weathers_cost_nothing(self):
        for a, b in PAIRS:
            for signs in signs_up_to(8):
                cost, row = heating(Lacquer(a, b), Weather.of_signs(signs), [2] * len(signs))
                self.assertIs(cost == 0, not is_spoilt(a, b, signs))
                if cost == 0:
                    self.assertEqual(row, in_their_order(keepings(a, b, signs))[0])

    def test_free_damp_hours(self):
        # The first warm row of all, with coats in damp hours, because they cost nothing.
        self.assertEqual(heating(Lacquer(1, 2), Weather([1, 3]), [0] * 4), (0, [1, 2, 3, 4]))
        self.assertEqual(heating(Lacquer(1, 2), Weather([1, 3]), [0, 1, 0, 0]), (0, [1, 3, 4]))
        # A coat that costs something is not laid if the row may end.
        self.assertEqual(heating(Lacquer(1, 2), Weather([1, 3]), [0, 1, 0, 1]), (0, [1, 3]))
        # Prices of dry hours are not paid.
        self.assertEqual(heating(Lacquer(1, 2), Weather([3]), [1000] * 3), (0, [1, 2, 3]))

    def test_one_hour_and_many(self):
        self.assertEqual(heating(Lacquer(1, 2), Weather([1]), [1000]), (0, [1]))
        dice = Random(302)
        for a, b in ((1, 2), (4, 5), (1, 12), (7, 11)):
            lacquer = Lacquer(a, b)
            dry, spells = Weather([200]), Weather([6, 4] * 20)
            self.assertEqual(heating(lacquer, dry, [7] * 200), (0, earliest(lacquer, dry)))
            prices = [dice.randint(1, 1000) for _ in range(200)]
            cost, row = heating(lacquer, spells, prices)
            self.assertIs(cost == 0, spoilt_hour(lacquer, spells) is None)
            self.assertEqual(row_cost(spells.signs(), prices, row), cost)
            self.assertTrue(row[0] == 1 and row[-1] + b > 200)
            self.assertTrue(all(a <= q - p <= b for p, q in zip(row, row[1:])))
            self.assertIs(labels_hold(lacquer, spells, prices, cost, heat_labels(lacquer, spells, prices)), True)

    def test_bad_prices(self):
        lacquer, weather = Lacquer(4, 5), Weather([4, 2, 3])
        for prices in ([1] * 8, [1] * 10, [], [1] * 8 + [1001], [-1] + [1] * 8, [1, 1, 1, 1, 1, -1, 1, 1, 1],
                       [0] * 8 + [10 ** 9]):
            for ask in (lambda: heating(lacquer, weather, prices), lambda: heat_labels(lacquer, weather, prices),
                        lambda: labels_hold(lacquer, weather, prices, 0, []),
                        lambda: labels_hold(lacquer, weather, prices, 0, [0] * 9)):
                with self.assertRaises(BadPrice) as caught:
                    ask()
                self.assertIsInstance(caught.exception, DampError)
        for price in (0, 1000):
            self.assertEqual(heating(lacquer, weather, [price] * 9)[0], price)


class Labels(unittest.TestCase):
    def test_against_all_lists_of_hours(self):
        dice = Random(303)
        for a, b in PAIRS:
            for signs in signs_up_to(7) + dice.sample(all_signs(9), 20):
                prices = dice.choice(PRICES)[:len(signs)]
                lacquer, weather = Lacquer(a, b), Weather.of_signs(signs)
                told = heat_labels(lacquer, weather, prices)
                self.assertEqual(told, least_sums(a, b, signs, prices))
                cost, _ = heating(lacquer, weather, prices)
                self.assertIs(labels_hold(lacquer, weather, prices, cost, told), True)
                self.assertIs(labels_hold(lacquer, weather, prices, cost + 1, told), False)
                self.assertIs(labels_hold(lacquer, weather, prices, cost - 1, told), True)

    def test_example(self):
        labels = heat_labels(*EXAMPLE)
        self.assertEqual(labels, [0, None, None, None, 7, 5, None, None, 7])
        self.assertIs(labels_hold(*EXAMPLE, 5, labels), True)
        self.assertIs(labels_hold(*EXAMPLE, 6, labels), False)

    def test_changed_labels(self):
        dice = Random(304)
        seen = []
        for _ in range(3000):
            a, b = dice.choice(PAIRS)
            signs = dice.choice(all_signs(7))
            prices = dice.choice(PRICES)[:7]
            lacquer, weather = Lacquer(a, b), Weather.of_signs(signs)
            labels = heat_labels(lacquer, weather, prices)
            for _ in range(dice.randint(0, 2)):
                at = dice.randrange(7)
                labels[at] = dice.choice([None, 0, 1, -1, (labels[at] or 0) + 1, (labels[at] or 0) - 1])
            cost = heating(lacquer, weather, prices)[0] + dice.choice([-1, 0, 0, 1])
            told = labels_hold(lacquer, weather, prices, cost, labels)
            self.assertIs(told, plain_support(a, b, signs, prices, cost, labels))
            seen.append(told)
        self.assertTrue(500 < sum(seen) < 2500, sum(seen))

    def test_by_hand(self):
        asked = (Lacquer(2, 3), Weather([2, 1, 2]), [9, 9, 4, 9, 9])
        self.assertEqual(heat_labels(*asked), [0, None, 4, 0, 4])
        for labels, told in (([0, None, 4, 0, 4], True), ([-1, None, 3, 0, 3], False), ([-1, None, 3, -1, 3], False),
                             ([1, None, 4, 0, 4], False), ([None, None, 4, 0, 4], False),
                             ([0, None, None, 0, 4], False), ([0, None, 5, 0, 4], False),
                             ([0, None, 4, None, 4], False), ([0, 0, 4, 0, 0], True), ([0, 0, 0, 0, 0], True),
                             ([0, 0, 0, 0, 1], False), ([0, None, 4, 0], False), ([0, None, 4, 0, 4, 4], False),
                             ([], False), ([None] * 5, False), ([0, -10 ** 20, 4, 0, 4], False)):
            with self.subTest(labels):
                self.assertIs(labels_hold(*asked, 0, labels), told)
        # Labels far below what is needed support only costs that are as low.
        self.assertIs(labels_hold(*asked, -7, [-7] * 5), True)
        self.assertIs(labels_hold(*asked, -6, [-7] * 5), False)
        self.assertIs(labels_hold(*asked, -10 ** 20, [0, None, 4, 0, 4]), True)

    def test_lists_are_new_and_nothing_is_changed(self):
        prices = list(EXAMPLE[2])
        heat_labels(Lacquer(4, 5), EXAMPLE[1], prices).clear()
        heating(Lacquer(4, 5), EXAMPLE[1], prices)[1].clear()
        labels = [0] * 9
        labels_hold(Lacquer(4, 5), EXAMPLE[1], prices, 0, labels)
        self.assertEqual((prices, labels), (EXAMPLE[2], [0] * 9))
        self.assertEqual(heating(*EXAMPLE), (5, [1, 6]))


class Warmed(unittest.TestCase):
    def test_against_the_signs(self):
        dice = Random(305)
        for signs in signs_up_to(6):
            for _ in range(5):
                hours = [dice.randint(1, len(signs)) for _ in range(dice.randint(0, 8))]
                told = warmed(Weather.of_signs(signs), hours)
                expected = "".join("." if at + 1 in hours else sign for at, sign in enumerate(signs))
                self.assertEqual(told.signs(), expected)

    def test_by_hand(self):
        weather = Weather([4, 2, 3])
        self.assertEqual(warmed(weather, []).lengths, (4, 2, 3))
        self.assertEqual(warmed(weather, [6, 6, 1]).lengths, (4, 1, 4))
        self.assertEqual(warmed(weather, [6, 9, 5]).lengths, (9,))
        self.assertEqual(weather.lengths, (4, 2, 3))
        self.assertEqual(warmed(Weather([1, 199]), list(range(200, 0, -1))).lengths, (200,))

    def test_hours_that_are_not_told(self):
        for hours in ([0], [10], [5, 10], [-1], [5, 0, 6], [10 ** 20]):
            given = list(hours)
            with self.assertRaises(BadHour) as caught:
                warmed(Weather([4, 2, 3]), hours)
            self.assertIsInstance(caught.exception, DampError)
            self.assertEqual(hours, given)


if __name__ == "__main__":
    unittest.main()
