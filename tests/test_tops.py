import unittest

from dampspells.base.errors import BadNumber, DampError
from dampspells.base.lacquer import Lacquer
from dampspells.base.ratio import Ratio
from dampspells.lead.tops import greatest, greatest_booked, greatest_paced, greatest_seen
from dampspells.lead.verdict import kind_booking
from dampspells.sky.climate import Climate
from tests.plain import lacquer_pairs
from tests.test_verdict import is_bad, lead

PAIRS = lacquer_pairs(12)
KINDS = [(w, g) for w in range(1, 17) for g in range(1, 121)]
FEW = [(1, 2), (1, 5), (1, 12), (2, 3), (2, 5), (3, 7), (4, 5), (5, 12), (6, 7), (11, 12)]


class Tops(unittest.TestCase):
    def has_just(self, climate, kinds):
        """The kinds that lie beneath the climate are these."""
        self.assertIsInstance(climate, Climate)
        longest = [climate.longest(g) for g in range(121)]
        self.assertEqual([(w, g) for w, g in KINDS if w <= longest[g]], kinds)

    def test_greatest(self):
        for a, b in PAIRS:
            self.has_just(greatest(Lacquer(a, b)), [(w, g) for w, g in KINDS if not is_bad(a, b, w, g)])

    def test_examples(self):
        self.assertEqual(greatest(Lacquer(2, 5)).kinds, ((3, 1), (4, 3)))
        self.assertEqual(greatest(Lacquer(1, 2)).kinds, ((1, 1),))
        self.assertEqual(greatest(Lacquer(1, 12)).kinds, ((11, 1),))
        self.assertEqual(greatest(Lacquer(11, 12)).kinds, tuple((j, 11 * j - 10) for j in range(1, 12)))

    def test_greatest_seen(self):
        for a, b in PAIRS:
            sound = [(w, g) for w, g in KINDS if not is_bad(a, b, w, g)]
            for sight in (0, 1, a - 1, a, 2 * a - 1, 2 * a, 3 * a + 1, 120, 1000):
                kinds = [(w, g) for w, g in sound if lead(a, b, w) <= sight]
                self.has_just(greatest_seen(Lacquer(a, b), sight), kinds)
        self.assertEqual(greatest_seen(Lacquer(2, 5), 1).kinds, ((3, 1),))
        self.assertEqual(greatest_seen(Lacquer(2, 5), 2).kinds, ((3, 1), (4, 3)))

    def test_greatest_booked(self):
        for a, b in FEW:
            lacquer = Lacquer(a, b)
            numbers = {kind: kind_booking(lacquer, *kind) for kind in KINDS}
            for sight in range(0, 140, 1 if a < 3 else 3):
                climate = greatest_booked(lacquer, sight)
                if sight < a:
                    self.assertIsNone(climate)
                else:
                    self.has_just(climate, [kind for kind in KINDS if (numbers[kind] or sight + 1) <= sight])

    def test_edges_of_booking(self):
        self.assertIsNone(greatest_booked(Lacquer(4, 5), 3))
        self.assertEqual(greatest_booked(Lacquer(4, 5), 4).kinds, ())
        self.assertEqual(greatest_booked(Lacquer(4, 5), 5).kinds, ((1, 1),))
        self.assertEqual(greatest_booked(Lacquer(4, 5), 7).kinds, ((1, 1),))
        self.assertEqual(greatest_booked(Lacquer(4, 5), 8).kinds, ((1, 1), (2, 5)))
        self.assertEqual(greatest_booked(Lacquer(2, 7), 6).kinds, ((4, 1), (5, 3)))

    def test_negative_sights(self):
        for ask in (greatest_seen, greatest_booked):
            with self.assertRaises(BadNumber) as caught:
                ask(Lacquer(4, 5), -1)
            self.assertIsInstance(caught.exception, DampError)

    def test_greatest_paced(self):
        for a, b in FEW:
            lacquer = Lacquer(a, b)
            turns = {g: next(k for k in range(121) if k * a >= g) for g in range(1, 121)}
            sound = [(w, g) for w, g in KINDS if not is_bad(a, b, w, g)]
            for top, bottom in ((0, 1), (1, 121), (1, 120), (1, 60), (1, 7), (2, 7), (1, 2), (2, 3), (1, 1), (3, 2),
                                (2, 1), (7, 2), (10, 1), (11, 1), (99, 1)):
                kinds = [(w, g) for w, g in sound if w * bottom <= turns[g] * top]
                self.has_just(greatest_paced(lacquer, Ratio(a) + Ratio(top, bottom)), kinds)

    def test_just_below_and_exactly_a_pace(self):
        lacquer, little = Lacquer(4, 5), Ratio(1, 10 ** 50)
        for w, g, below in ((1, 1, 5), (2, 5, 9), (3, 9, 13), (4, 13, 17), (1, 117, None), (2, 117, None)):
            turns = (g + 3) // 4
            exact = Ratio(4) + Ratio(w, turns)
            self.assertEqual(greatest_paced(lacquer, exact).least_run(w), g)
            self.assertEqual(greatest_paced(lacquer, exact - little).least_run(w), below)
            self.assertEqual(greatest_paced(lacquer, exact + little).least_run(w), g)

    def test_paces_near_a(self):
        self.assertIsNone(greatest_paced(Lacquer(4, 5), Ratio(39, 10)))
        self.assertIsNone(greatest_paced(Lacquer(4, 5), Ratio(-7)))
        self.assertEqual(greatest_paced(Lacquer(4, 5), Ratio(4)).kinds, ())
        self.assertEqual(greatest_paced(Lacquer(4, 5), Ratio(4 * 31 + 1, 31)).kinds, ())
        self.assertEqual(greatest_paced(Lacquer(4, 5), Ratio(4 * 30 + 1, 30)).kinds, ((1, 117),))


if __name__ == "__main__":
    unittest.main()
