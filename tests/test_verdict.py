import unittest

from dampspells.base.errors import BadKind, DampError
from dampspells.base.lacquer import Lacquer
from dampspells.lead.verdict import (bad_kinds, booking_needed, is_sound, kind_booking, lead_of, sight_needed)
from dampspells.sky.climate import Climate
from tests.plain import is_of, is_spoilt, lacquer_pairs, signs_up_to, some_kinds

PAIRS = lacquer_pairs(12)
SOME = some_kinds(13, 40, 8, 30)


def lead(a, b, w):
    return ((w + b - a - 1) // (b - a) - 1) * a


def is_bad(a, b, w, g):
    return w >= b or g <= lead(a, b, w)


def booking(a, b, w, g):
    """Point [12], word for word."""
    slack = b - a
    spans = next(k for k in range(20) if k * slack >= w)
    counting = [a + w] * (w <= slack) + [max(w + 1, max(2, spans) * a)] * (g > a)
    return min(counting)


class Verdicts(unittest.TestCase):
    def test_edges_of_soundness(self):
        for a, b in PAIRS:
            lacquer = Lacquer(a, b)
            self.assertIs(is_sound(lacquer, Climate([])), True)
            for w in range(1, 17):
                for g in {1, 120, max(1, lead(a, b, w)), lead(a, b, w) + 1, lead(a, b, w) + 2}:
                    if g > 120:
                        continue
                    climate = Climate([(w, g)])
                    word = "long" if w >= b else "close"
                    bad = is_bad(a, b, w, g)
                    self.assertEqual(bad_kinds(lacquer, climate), [(w, g, word)] if bad else [])
                    self.assertIs(is_sound(lacquer, climate), not bad)
                    self.assertEqual(lead_of(lacquer, climate), lead(a, b, w))
                    self.assertEqual(sight_needed(lacquer, climate), None if bad else lead(a, b, w))

    def test_edges_by_hand(self):
        self.assertIs(is_sound(Lacquer(4, 5), Climate([(4, 13)])), True)
        self.assertIs(is_sound(Lacquer(4, 5), Climate([(4, 12)])), False)
        self.assertIs(is_sound(Lacquer(4, 5), Climate([(5, 120)])), False)
        self.assertIs(is_sound(Lacquer(1, 12), Climate([(11, 1)])), True)
        self.assertIs(is_sound(Lacquer(11, 12), Climate([(11, 111)])), True)
        self.assertIs(is_sound(Lacquer(11, 12), Climate([(11, 110)])), False)

    def test_bad_kinds_in_their_order(self):
        self.assertEqual(bad_kinds(Lacquer(4, 5), Climate([(5, 9), (2, 4)])), [(2, 4, "close"), (5, 9, "long")])
        climate = Climate([(6, 50), (3, 9), (2, 4), (1, 2), (1, 9)])
        self.assertEqual(bad_kinds(Lacquer(4, 5), climate), [(2, 4, "close"), (6, 50, "long")])
        bad_kinds(Lacquer(4, 5), climate).clear()
        self.assertEqual(len(bad_kinds(Lacquer(4, 5), climate)), 2)

    def test_needless_kinds_do_not_count(self):
        climate = Climate([(3, 9), (2, 20), (1, 30)])
        self.assertEqual(bad_kinds(Lacquer(4, 5), Climate([(3, 5), (2, 5), (1, 6)])), [(3, 5, "close")])
        self.assertIs(is_sound(Lacquer(4, 5), climate), True)

    def test_leads_of_climates(self):
        for a, b in PAIRS:
            for kinds in SOME:
                lacquer, climate = Lacquer(a, b), Climate(kinds)
                greatest = max([lead(a, b, w) for w, g in kinds], default=0)
                self.assertEqual(lead_of(lacquer, climate), greatest)
                bad = any(is_bad(a, b, w, g) for w, g in kinds)
                self.assertEqual(sight_needed(lacquer, climate), None if bad else greatest)
                self.assertIs(is_sound(lacquer, climate), not bad)

    def test_sound_exactly_if_no_weather_is_spoilt(self):
        signs = signs_up_to(12)
        for a, b in ((1, 2), (1, 3), (2, 3), (2, 4), (3, 4)):
            spoilt = [text for text in signs if is_spoilt(a, b, text)]
            for kinds in some_kinds(14, 40, 4, 4):
                found = any(is_of(kinds, text) for text in spoilt)
                self.assertIs(is_sound(Lacquer(a, b), Climate(kinds)), not found)


class Bookings(unittest.TestCase):
    def test_each_kind(self):
        for a, b in PAIRS:
            for w in range(1, 17):
                for g in range(1, 121):
                    told = kind_booking(Lacquer(a, b), w, g)
                    self.assertEqual(told, None if is_bad(a, b, w, g) else booking(a, b, w, g))

    def test_by_hand(self):
        self.assertEqual(kind_booking(Lacquer(4, 5), 2, 5), 8)
        self.assertEqual(kind_booking(Lacquer(4, 5), 1, 4), 5)
        self.assertEqual(kind_booking(Lacquer(4, 5), 1, 5), 5)
        self.assertEqual(kind_booking(Lacquer(2, 7), 5, 2), 7)
        self.assertEqual(kind_booking(Lacquer(2, 7), 5, 3), 6)
        self.assertEqual(kind_booking(Lacquer(1, 5), 4, 2), 5)
        self.assertIsNone(kind_booking(Lacquer(4, 5), 2, 4))
        self.assertIsNone(kind_booking(Lacquer(4, 5), 5, 120))

    def test_no_kinds(self):
        for w, g in ((0, 5), (17, 5), (2, 0), (2, 121), (-1, -1)):
            with self.assertRaises(BadKind) as caught:
                kind_booking(Lacquer(4, 5), w, g)
            self.assertIsInstance(caught.exception, DampError)

    def test_climates(self):
        for a, b in PAIRS:
            self.assertEqual(booking_needed(Lacquer(a, b), Climate([])), a)
            for kinds in SOME:
                bad = any(is_bad(a, b, w, g) for w, g in kinds)
                needed = None if bad else max([a] + [booking(a, b, w, g) for w, g in kinds])
                self.assertEqual(booking_needed(Lacquer(a, b), Climate(kinds)), needed)


if __name__ == "__main__":
    unittest.main()
