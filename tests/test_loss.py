from fractions import Fraction
import unittest

from dampspells.base.errors import BadNumber, DampError, TooLarge, Unsound
from dampspells.base.lacquer import Lacquer
from dampspells.base.ratio import Ratio
from dampspells.lead.loss import coats_sure, loss, pace, sure_by, worst
from dampspells.lead.tops import greatest
from dampspells.lead.verdict import is_sound
from dampspells.sky.climate import Climate
from tests.plain import dry_hours, keepings, lacquer_pairs, signs_of, some_kinds

EXAMPLE = (Lacquer(4, 5), Climate([(2, 5)]))
BAD = (Lacquer(4, 5), Climate([(1, 2), (2, 4), (5, 9)]))


def sound_pairs(most, seed, times, w, g):
    """Lacquers and sound climates, each lacquer with its greatest climate and the one without kinds, too."""
    found = []
    for pair in lacquer_pairs(most):
        lacquer = Lacquer(*pair)
        climates = [Climate(kinds) for kinds in some_kinds(seed, times, w, g)] + [greatest(lacquer)]
        found += [(lacquer, climate) for climate in climates if is_sound(lacquer, climate)]
    return found


def greatest_sums(lacquer, climate, most):
    """K(0) to K(most), as point [14] has it: all lists of kinds, in ascending order of their indices."""
    pieces = [(w, -(-g // lacquer.a)) for w, g in climate]
    best = [0] * (most + 1)

    def go_on(first, w, turns):
        best[turns] = max(best[turns], w)
        for at in range(first, len(pieces)):
            if turns + pieces[at][1] <= most:
                go_on(at, w + pieces[at][0], turns + pieces[at][1])

    go_on(0, 0, 0)
    return [max(best[:q + 1]) for q in range(most + 1)]


def earliest_hour(lacquer, signs, n):
    """The earliest hour of coat n in a keeping."""
    a, b = lacquer.a, lacquer.b
    dry = dry_hours(signs)
    lasting = set()
    for hour in reversed(dry):
        if hour + b > len(signs) or any(hour + step in lasting for step in range(a, b + 1)):
            lasting.add(hour)
    hours = {1}
    for _ in range(n):
        hours = {hour for hour in dry if any(hour - step in hours for step in range(a, b + 1))}
    return min(hours & lasting, default=None)


class Losses(unittest.TestCase):
    def test_example(self):
        self.assertEqual([loss(*EXAMPLE, n) for n in range(4)], [0, 1, 2, 3])
        self.assertEqual([sure_by(*EXAMPLE, n) for n in range(4)], [1, 6, 11, 16])
        self.assertEqual(worst(*EXAMPLE, 1).lengths, (8, 2, 1))
        self.assertEqual(worst(*EXAMPLE, 0).lengths, (1,))
        self.assertEqual(pace(*EXAMPLE).text(), "5")

    def test_pace(self):
        for lacquer, climate in sound_pairs(12, 15, 30, 8, 40):
            delays = [Fraction(w, -(-g // lacquer.a)) for w, g in climate]
            exact = lacquer.a + max(delays, default=0)
            told = pace(lacquer, climate)
            self.assertIsInstance(told, Ratio)
            self.assertEqual((told.top, told.bottom), (exact.numerator, exact.denominator))
        self.assertEqual(pace(Lacquer(4, 5), Climate([])).text(), "4")

    def test_loss(self):
        for lacquer, climate in sound_pairs(6, 16, 25, 4, 12):
            sums = greatest_sums(lacquer, climate, 24)
            for n in range(11):
                values = [sums[q] - (q - n) * (lacquer.b - lacquer.a) for q in range(n, 25)]
                self.assertEqual(loss(lacquer, climate, n), max(values))
                self.assertEqual(sure_by(lacquer, climate, n), 1 + n * lacquer.a + max(values))

    def test_no_kinds(self):
        for n in (0, 1, 400):
            self.assertEqual(loss(Lacquer(4, 5), Climate([]), n), 0)
            self.assertEqual(sure_by(Lacquer(4, 5), Climate([]), n), 1 + 4 * n)

    def test_never_later_than_the_pace(self):
        for lacquer, climate in sound_pairs(8, 17, 15, 6, 60):
            told = pace(lacquer, climate)
            for n in (0, 1, 2, 7, 40, 399, 400):
                late = Ratio(1) + Ratio(n) * told
                self.assertLessEqual(Ratio(sure_by(lacquer, climate, n)).compare(late), 0)

    def test_long_runs(self):
        lacquer, climate = Lacquer(1, 3), Climate([(1, 1), (2, 120)])
        self.assertEqual([loss(lacquer, climate, n) for n in (1, 119, 120, 240, 400)], [1, 119, 120, 240, 400])
        lacquer, climate = Lacquer(1, 3), Climate([(2, 120)])
        self.assertEqual([loss(lacquer, climate, n) for n in (0, 1, 118, 119, 120, 239, 240, 400)],
                         [0, 0, 0, 0, 2, 2, 4, 6])

    def test_sure_in_all_short_weathers(self):
        for lacquer, climate in sound_pairs(4, 18, 12, 2, 4):
            hours = 10
            late = {}
            for signs in signs_of(climate.kinds, hours):
                for n in range(hours):
                    found = [row[n] for row in keepings(lacquer.a, lacquer.b, signs) if len(row) > n]
                    if sure_by(lacquer, climate, n) <= hours:
                        late[n] = max(late.get(n, 0), min(found))
            for n, hour in late.items():
                self.assertLessEqual(hour, sure_by(lacquer, climate, n))
                weather = worst(lacquer, climate, n)
                if weather.hours <= hours:
                    self.assertEqual(hour, sure_by(lacquer, climate, n))

    def test_coats_sure(self):
        for lacquer, climate in sound_pairs(5, 19, 10, 4, 12):
            hours = [sure_by(lacquer, climate, n) for n in range(60)]
            for hour in range(1, 60):
                self.assertEqual(coats_sure(lacquer, climate, hour), max(n for n in range(60) if hours[n] <= hour))

    def test_coats_sure_at_the_edges(self):
        self.assertEqual([coats_sure(*EXAMPLE, hour) for hour in (1, 5, 6, 10, 11, 400)], [0, 0, 1, 1, 2, 79])
        self.assertEqual(coats_sure(Lacquer(1, 2), Climate([]), 400), 399)
        self.assertEqual(coats_sure(Lacquer(1, 2), Climate([(1, 1)]), 400), 199)

    def test_worst_weather(self):
        for lacquer, climate in sound_pairs(6, 20, 25, 4, 14):
            for n in range(9):
                weather = worst(lacquer, climate, n)
                self.assertIn(weather, climate)
                hour = earliest_hour(lacquer, weather.signs(), n)
                self.assertEqual(hour, sure_by(lacquer, climate, n))
                self.assertEqual(weather.lengths, self.worst_lengths(lacquer, climate, n))

    def worst_lengths(self, lacquer, climate, n):
        """Point [15], word for word."""
        sums = greatest_sums(lacquer, climate, n + 15)
        values = [sums[q] - (q - n) * (lacquer.b - lacquer.a) for q in range(n, n + 15)]
        q = n + values.index(max(values))

        def items(r):
            if r == 0:
                return []
            if sums[r] == sums[r - 1]:
                return items(r - 1)
            turns = {(w, g): -(-g // lacquer.a) for w, g in climate}
            first = next(k for k in climate.kinds if turns[k] <= r and sums[r] == k[0] + sums[r - turns[k]])
            return [(first[0], turns[first])] + items(r - turns[first])

        lengths = [length for w, turns in items(q) for length in (turns * lacquer.a, w)]
        return (*lengths, (q - sum(turns for w, turns in items(q))) * lacquer.a + 1)

    def test_first_kind_of_several(self):
        climate = Climate([(1, 1), (2, 5), (4, 13)])
        self.assertEqual(worst(Lacquer(4, 6), climate, 2).lengths, (4, 1, 4, 1, 1))
        self.assertEqual(worst(Lacquer(4, 6), climate, 4).lengths, (4, 1, 4, 1, 4, 1, 4, 1, 1))

    def test_worst_of_200_hours_and_more(self):
        self.assertEqual(worst(Lacquer(1, 2), Climate([]), 199).lengths, (200,))
        for n in (200, 400):
            with self.assertRaises(TooLarge) as caught:
                worst(Lacquer(1, 2), Climate([]), n)
            self.assertIsInstance(caught.exception, DampError)
        for lacquer, climate in (EXAMPLE, (Lacquer(2, 3), Climate([(1, 2), (2, 5)]))):
            hours = []
            for n in range(100):
                try:
                    hours.append(worst(lacquer, climate, n).hours)
                except TooLarge:
                    break
            q = max(range(n, n + 3), key=lambda r: greatest_sums(lacquer, climate, n + 3)[r] - r)
            self.assertGreater(1 + q * lacquer.a + greatest_sums(lacquer, climate, n + 3)[q], 200)
            self.assertLessEqual(max(hours), 200)

    def test_unsound_comes_first(self):
        for ask in (loss, sure_by, coats_sure, worst):
            for number in (-1, 0, 1, 401):
                with self.assertRaises(Unsound) as caught:
                    ask(*BAD, number)
                self.assertEqual(caught.exception.kind, (2, 4))
                self.assertIsInstance(caught.exception, DampError)
        with self.assertRaises(Unsound) as caught:
            pace(Lacquer(4, 5), Climate([(5, 9)]))
        self.assertEqual(caught.exception.kind, (5, 9))

    def test_numbers_come_second(self):
        for ask, wrong in ((loss, (-1, 401)), (sure_by, (-1, 401)), (coats_sure, (-1, 0, 401)), (worst, (-1, 401))):
            for number in wrong:
                with self.assertRaises(BadNumber) as caught:
                    ask(*EXAMPLE, number)
                self.assertIsInstance(caught.exception, DampError)
        self.assertEqual((loss(*EXAMPLE, 400), sure_by(*EXAMPLE, 400), sure_by(*EXAMPLE, 0)), (400, 2001, 1))


if __name__ == "__main__":
    unittest.main()
