from functools import lru_cache
from itertools import product
from random import Random
import re
import unittest

from dampspells.base.errors import BadKind, BadLacquer, BadText, BadWeather, DampError
from dampspells.base.lacquer import Lacquer
from dampspells.sky.climate import Climate
from dampspells.sky.weather import Weather
from dampspells.words.reading import read_climate, read_lacquer, read_weather
from dampspells.words.writing import write_climate, write_lacquer, write_weather
from tests.plain import lacquer_pairs, signs_up_to, some_kinds

NUMBER = "(0|[1-9][0-9]{0,5})"
KIND = NUMBER + "/" + NUMBER
LACQUER = re.compile(NUMBER + "-" + NUMBER)
CLIMATE = re.compile(rf"dry|{KIND}(\+{KIND})*")
WEATHER = re.compile(f"{NUMBER}(,{NUMBER})*")
READERS = ((read_lacquer, LACQUER, "1-", BadLacquer), (read_climate, CLIMATE, "1/+dry", BadKind),
           (read_weather, WEATHER, "1,", BadWeather))


@lru_cache(None)
def can_become(form, beginning, signs):
    """Whether a few more signs give a text of the form; three are enough where any are."""
    return any(form.fullmatch(beginning + "".join(more)) for many in range(4) for more in product(signs, repeat=many))


def longest_beginning(form, text, signs):
    return max(n for n in range(len(text) + 1) if can_become(form, text[:n], signs))


def some_texts(signs, times):
    dice = Random(11)
    for _ in range(times):
        yield "".join(dice.choice(signs) for _ in range(dice.randint(0, 11)))


class Writing(unittest.TestCase):
    def test_examples(self):
        self.assertEqual(write_lacquer(Lacquer(4, 5)), "4-5")
        self.assertEqual(write_lacquer(Lacquer(11, 12)), "11-12")
        self.assertEqual(write_climate(Climate([(4, 9), (2, 5)])), "2/5+4/9")
        self.assertEqual(write_climate(Climate([(4, 9), (2, 9), (4, 9)])), "4/9")
        self.assertEqual(write_climate(Climate([(16, 120)])), "16/120")
        self.assertEqual(write_climate(Climate([])), "dry")
        self.assertEqual(write_weather(Weather([5, 2, 5])), "5,2,5")
        self.assertEqual(write_weather(Weather([200])), "200")

    def test_what_is_written_is_read(self):
        for pair in lacquer_pairs(12):
            self.assertEqual(read_lacquer(write_lacquer(Lacquer(*pair))), Lacquer(*pair))
        for kinds in some_kinds(12, 60, 16, 120):
            self.assertEqual(read_climate(write_climate(Climate(kinds))), Climate(kinds))
        for signs in signs_up_to(7):
            weather = Weather.of_signs(signs)
            self.assertEqual(read_weather(write_weather(weather)), weather)


class Reading(unittest.TestCase):
    def stops(self, read, text, at):
        with self.subTest(text), self.assertRaises(BadText) as caught:
            read(text)
        self.assertEqual(caught.exception.at, at, text)
        self.assertIsInstance(caught.exception, DampError)

    def test_examples(self):
        lacquer = read_lacquer("4-5")
        self.assertEqual((lacquer.a, lacquer.b), (4, 5))
        self.assertEqual(read_climate("2/5+4/9").kinds, ((2, 5), (4, 9)))
        self.assertEqual(read_climate("dry").kinds, ())
        self.assertEqual(read_weather("5,2,5").lengths, (5, 2, 5))
        self.assertEqual(read_weather("12").lengths, (12,))

    def test_kinds_in_any_order(self):
        self.assertEqual(read_climate("4/9+2/7+2/5+2/5+1/5").kinds, ((2, 5), (4, 9)))

    def test_places_by_hand(self):
        for text, at in (("", 0), ("4", 1), ("4-", 2), ("-5", 0), ("4--5", 2), ("04-5", 1), ("4-05", 3), ("4-5-6", 3),
                         ("4-5 ", 3), (" 4-5", 0), ("1234567-8", 6), ("1-1234567", 8), ("4-5\n", 3), ("0x", 1)):
            self.stops(read_lacquer, text, at)
        for text, at in (("", 0), ("2/5+04/9", 5), ("d", 1), ("dr", 2), ("dryx", 3), ("dry+2/5", 3), ("drx", 2),
                         ("dx", 1), ("D", 0), ("ry", 0), ("2", 1), ("2/", 2), ("2/5+", 4), ("2/5+3", 5), ("2/5/3", 3),
                         ("2+5", 1), ("2/5+dry", 4), ("2/1234567", 8), ("+2/5", 0), ("2/5,3/6", 3), ("00/1", 1)):
            self.stops(read_climate, text, at)
        for text, at in (("", 0), ("5,", 2), (",5", 0), ("5,,2", 2), ("5,02", 3), ("5, 2", 2), ("5.2", 1),
                         ("1234567", 6), ("1,\t", 2), ("#", 0), ("-1", 0)):
            self.stops(read_weather, text, at)

    def test_places_of_many_texts(self):
        for read, form, signs, wrong in READERS:
            texts = ["".join(text) for n in range(4) for text in product(signs + "0", repeat=n)]
            for text in [*texts, *some_texts(signs + signs + "01", 400)]:
                if form.fullmatch(text):
                    try:
                        read(text)
                    except wrong:
                        pass
                else:
                    self.stops(read, text, longest_beginning(form, text, signs))

    def test_six_digits(self):
        for read, text, wrong in ((read_lacquer, "999999-999999", BadLacquer), (read_climate, "999999/1", BadKind),
                                  (read_climate, "1/999999", BadKind), (read_weather, "999999", BadWeather)):
            with self.assertRaises(wrong):
                read(text)

    def test_the_class_checks_the_numbers(self):
        for text in ("5-4", "0-5", "4-4", "4-13", "0-0"):
            with self.assertRaises(BadLacquer):
                read_lacquer(text)
        for text in ("0/5", "17/5", "2/0", "2/121", "2/5+0/0", "+".join(["2/5"] * 301)):
            with self.assertRaises(BadKind):
                read_climate(text)
        for text in ("0", "5,0", "0,5", "201", "100,101", ",".join(["1"] * 201)):
            with self.assertRaises(BadWeather):
                read_weather(text)
        self.assertEqual(read_climate("+".join(["2/5"] * 300)).kinds, ((2, 5),))
        self.assertEqual(read_weather(",".join(["1"] * 200)).hours, 200)

    def test_form_comes_before_numbers(self):
        self.stops(read_lacquer, "5-4-", 3)
        self.stops(read_climate, "0/5+", 4)
        self.stops(read_weather, "0,", 2)


if __name__ == "__main__":
    unittest.main()
