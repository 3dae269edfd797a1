from itertools import product
import unittest

from dampspells.base.errors import BadDiary, Clash, DampError
from dampspells.half.diary import Diary
from tests.plain import MARKS, fits


def common(one, other):
    """The mark that allows exactly the letters that both allow, or None."""
    both = "".join(letter for letter in "c.#" if letter in MARKS[one] and letter in MARKS[other])
    return {letters: mark for mark, letters in MARKS.items()}.get(both)


class Diaries(unittest.TestCase):
    def test_attributes(self):
        diary = Diary("co?.#-x")
        self.assertEqual((diary.marks, diary.size), ("co?.#-x", 7))
        self.assertEqual((Diary("c").marks, Diary("c").size), ("c", 1))

    def test_bounds(self):
        self.assertEqual(Diary("c" + "?" * 29).size, 30)
        for marks in ("", "c" + "?" * 30, "c" * 31, "o", "?c", "xc", ".", "#c", "-", "cC", "c ", "c??!", "c\n", "cO"):
            with self.subTest(marks):
                with self.assertRaises(BadDiary) as caught:
                    Diary(marks)
                self.assertIsInstance(caught.exception, DampError)

    def test_equality(self):
        self.assertIs(Diary("c?") == Diary("c?"), True)
        self.assertIs(Diary("c?") == Diary("c-"), False)
        self.assertIs(Diary("c?") == Diary("c??"), False)

    def test_blank(self):
        for n in (1, 2, 29, 30):
            self.assertEqual(Diary.blank(n).marks, "c" + "?" * (n - 1))
        for n in (0, 31, -1, 10 ** 9):
            with self.assertRaises(BadDiary) as caught:
                Diary.blank(n)
            self.assertIsInstance(caught.exception, DampError)


class CommonDiaries(unittest.TestCase):
    def test_example(self):
        self.assertEqual((Diary("co?") & Diary("c-x")).marks, "c.x")

    def test_each_pair_of_marks(self):
        clashes = 0
        for one, other in product(MARKS, repeat=2):
            expected = common(one, other)
            if expected is None:
                clashes += 1
                with self.assertRaises(Clash) as caught:
                    Diary("c?" + one) & Diary("co" + other)
                self.assertEqual(caught.exception.hour, 3)
                self.assertIsInstance(caught.exception, DampError)
            else:
                told = Diary("c?" + one) & Diary("co" + other)
                self.assertIsInstance(told, Diary)
                self.assertEqual(told.marks, "co" + expected)
        # Three pairs of letters, and each letter with the mark that allows the two others.
        self.assertEqual(clashes, 2 * 3 + 2 * 3)

    def test_the_first_clash(self):
        with self.assertRaises(Clash) as caught:
            Diary("c?.c#") & Diary("c?#.#")
        self.assertEqual(caught.exception.hour, 3)
        with self.assertRaises(Clash) as caught:
            Diary("c..") & Diary("c.x")
        self.assertEqual(caught.exception.hour, 3)

    def test_sizes_come_before_clashes(self):
        for one, other in (("c", "c?"), ("c.", "c#?"), ("c" + "?" * 29, "c")):
            with self.assertRaises(BadDiary) as caught:
                Diary(one) & Diary(other)
            self.assertIsInstance(caught.exception, DampError)

    def test_exactly_the_common_worlds_fit(self):
        for one, other in (("c?o-", "cx??"), ("c-?x", "c?-?"), ("coo", "c??"), ("c", "c")):
            told = Diary(one) & Diary(other)
            for world in map("".join, product("c.#", repeat=len(one))):
                self.assertIs(told.allows(world), fits(one, world) and fits(other, world))
            self.assertEqual(told, Diary(other) & Diary(one))


class Allows(unittest.TestCase):
    def test_against_the_words_of_the_document(self):
        for marks in ("c", "c?", "co-x", "c.#c", "c???"):
            for many in range(6):
                for world in map("".join, product("c.#?", repeat=many)):
                    self.assertIs(Diary(marks).allows(world), fits(marks, world))

    def test_texts_that_are_no_worlds(self):
        for world in ("", "c", "cc ", "cco", "cc?", "CCC", "cccc"):
            self.assertIs(Diary("c??").allows(world), False)
        # It need not be a world: two coats next to each other, and damp hours without an end.
        self.assertIs(Diary("c" + "?" * 29).allows("cc" + "#" * 28), True)


if __name__ == "__main__":
    unittest.main()
