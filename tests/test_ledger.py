from random import Random
import unittest

from dampspells.base.errors import BadDiary, BadHour, BadNumber, BadReport, Clash, DampError
from dampspells.half.diary import Diary
from dampspells.half.ledger import Ledger
from tests.plain import MARKS

ALL = "c.#"


def letters(reports, hour):
    """Point [49]: the letters that all these reports about the hour allow."""
    told = [MARKS[mark] for _, at, mark in reports if at == hour]
    return "".join(letter for letter in ("c" if hour == 1 else ALL) if all(letter in text for text in told))


def plain_diary(reports, n):
    marks = {allowed: mark for mark, allowed in MARKS.items()}
    return Diary("".join(marks[letters(reports, hour)] for hour in range(1, n + 1)))


def check_unchanged(test, ledger, ask, error):
    before = (ledger.done, ledger.standing(), ledger.diary())
    with test.assertRaises(error) as caught:
        ask()
    test.assertIsInstance(caught.exception, DampError)
    test.assertEqual((ledger.done, ledger.standing(), ledger.diary()), before)
    return caught.exception


class Ledgers(unittest.TestCase):
    def test_at_the_start(self):
        for n in (1, 2, 30):
            ledger = Ledger(n)
            self.assertEqual((ledger.done, ledger.standing(), ledger.diary()), (0, [], Diary.blank(n)))
            self.assertEqual(ledger.as_of(0), Diary.blank(n))
        for n in (0, 31, -1, 10 ** 9):
            with self.assertRaises(BadDiary) as caught:
                Ledger(n)
            self.assertIsInstance(caught.exception, DampError)

    def test_against_a_walk(self):
        dice = Random(521)
        clashes = 0
        for _ in range(60):
            n = dice.choice([1, 2, 5])
            ledger, standing, number, history = Ledger(n), [], 0, [[]]
            for _ in range(40):
                hour, mark = dice.randint(1, n), dice.choice("ccc.#o-x??")
                if standing and dice.random() < 0.4:
                    gone = dice.choice(standing)
                    self.assertIsNone(ledger.take_back(gone[0]))
                    standing = [report for report in standing if report != gone]
                    history.append(standing)
                elif letters(standing + [(0, hour, mark)], hour):
                    number += 1
                    self.assertEqual(ledger.report(hour, mark), number)
                    standing = standing + [(number, hour, mark)]
                    history.append(standing)
                else:
                    clashes += 1
                    error = check_unchanged(self, ledger, lambda: ledger.report(hour, mark), Clash)
                    self.assertEqual(error.hour, hour)
                self.assertEqual(ledger.standing(), standing)
                self.assertEqual(ledger.diary(), plain_diary(standing, n))
                self.assertEqual(ledger.done, len(history) - 1)
            for count, reports in enumerate(history):
                self.assertEqual(ledger.as_of(count), plain_diary(reports, n))
        self.assertGreater(clashes, 200)

    def test_by_hand(self):
        ledger = Ledger(3)
        self.assertEqual([ledger.report(2, "o"), ledger.report(3, "#"), ledger.report(2, "-")], [1, 2, 3])
        self.assertEqual(ledger.diary().marks, "c.#")
        ledger.take_back(1)
        self.assertEqual(ledger.diary().marks, "c-#")
        self.assertEqual(ledger.standing(), [(2, 3, "#"), (3, 2, "-")])
        self.assertEqual([ledger.as_of(count).marks for count in range(5)], ["c??", "co?", "co#", "c.#", "c-#"])
        self.assertEqual(ledger.done, 4)

    def test_hour_1(self):
        ledger = Ledger(2)
        for mark in "co?x":
            ledger.report(1, mark)
        self.assertEqual(ledger.done, 4)
        for mark in ".#-":
            error = check_unchanged(self, ledger, lambda: ledger.report(1, mark), Clash)
            self.assertEqual(error.hour, 1)
        self.assertEqual(ledger.diary().marks, "c?")
        self.assertEqual(ledger.report(2, "#"), 5)

    def test_accepted_later(self):
        ledger = Ledger(2)
        self.assertEqual(ledger.report(2, "o"), 1)
        check_unchanged(self, ledger, lambda: ledger.report(2, "#"), Clash)
        ledger.take_back(1)
        # The refused report got no number.
        self.assertEqual(ledger.report(2, "#"), 2)
        self.assertEqual(ledger.diary().marks, "c#")
        check_unchanged(self, ledger, lambda: ledger.report(2, "o"), Clash)
        ledger.take_back(2)
        self.assertEqual(ledger.report(2, "o"), 3)
        self.assertEqual(ledger.standing(), [(3, 2, "o")])

    def test_marks_that_clash_only_together(self):
        ledger = Ledger(2)
        ledger.report(2, "o")
        ledger.report(2, "x")
        error = check_unchanged(self, ledger, lambda: ledger.report(2, "-"), Clash)
        self.assertEqual(error.hour, 2)
        ledger.take_back(1)
        ledger.report(2, "-")
        self.assertEqual(ledger.diary().marks, "c#")

    def test_wrong_reports_in_the_order_of_the_errors(self):
        ledger = Ledger(3)
        ledger.report(2, "#")
        for hour in (0, 4, -1, 10 ** 9):
            for mark in ("c", "z", ""):
                check_unchanged(self, ledger, lambda: ledger.report(hour, mark), BadHour)
        for mark in ("", "z", "co", "C", "??", " ", "c.#"):
            for hour in (1, 2, 3):
                check_unchanged(self, ledger, lambda: ledger.report(hour, mark), BadDiary)
        self.assertEqual(ledger.report(3, "?"), 2)

    def test_numbers_that_do_not_stand(self):
        ledger = Ledger(2)
        ledger.report(2, "o")
        ledger.report(2, "o")
        ledger.take_back(1)
        for number in (0, 1, 3, -1, -2, 10 ** 9):
            check_unchanged(self, ledger, lambda: ledger.take_back(number), BadReport)
        ledger.take_back(2)
        check_unchanged(self, ledger, lambda: ledger.take_back(2), BadReport)
        self.assertEqual(ledger.done, 4)

    def test_wrong_counts(self):
        ledger = Ledger(2)
        ledger.report(2, "o")
        for count in (-1, 2, 10 ** 9):
            check_unchanged(self, ledger, lambda: ledger.as_of(count), BadNumber)
        self.assertEqual(ledger.as_of(1).marks, "co")

    def test_lists_are_new(self):
        ledger = Ledger(2)
        ledger.report(2, "o")
        ledger.standing().clear()
        self.assertEqual(ledger.standing(), [(1, 2, "o")])


if __name__ == "__main__":
    unittest.main()
