"""Ledgers: reports that come late."""

from dampspells.base.errors import BadDiary, BadHour, BadNumber, BadReport, Clash
from dampspells.half.diary import Diary
from dampspells.half.marks import common_mark, is_mark


class Ledger:
    """The reports about the n hours of one diary, and which of them stand."""

    def __init__(self, n):
        self._blank = Diary.blank(n)
        # Triples (number, hour, mark); the report with the number k has the index k - 1.
        self._reports = []
        # k for the acceptance of the report with the number k, -k when it is taken back.
        self._deeds = []

    @property
    def done(self):
        return len(self._deeds)

    def report(self, hour, mark):
        """Accepts a report and returns its number."""
        if not 1 <= hour <= self._blank.size:
            raise BadHour(f"the diary has no hour {hour}")
        if not is_mark(mark):
            raise BadDiary("a report has one of the seven marks")
        if common_mark(self.diary().marks[hour - 1], mark) is None:
            raise Clash(hour)
        number = len(self._reports) + 1
        self._reports.append((number, hour, mark))
        self._deeds.append(number)
        return number

    def take_back(self, number):
        """Takes back the report with this number."""
        if number not in self._numbers(self.done):
            raise BadReport(f"no report with the number {number} stands")
        self._deeds.append(-number)

    def standing(self):
        """The list of the triples (number, hour, mark) of the standing reports."""
        return [self._reports[number - 1] for number in self._numbers(self.done)]

    def diary(self):
        """The diary of the ledger."""
        return self.as_of(self.done)

    def as_of(self, count):
        """The diary that the ledger had after so many deeds."""
        if not 0 <= count <= self.done:
            raise BadNumber(f"there are {self.done} deeds")
        marks = list(self._blank.marks)
        for number in self._numbers(count):
            _, hour, mark = self._reports[number - 1]
            marks[hour - 1] = common_mark(marks[hour - 1], mark)
        return Diary("".join(marks))

    def _numbers(self, count):
        """The ascending list of the numbers of the reports that stand after so many deeds."""
        numbers = {}
        for deed in self._deeds[:count]:
            if deed > 0:
                numbers[deed] = True
            else:
                del numbers[-deed]
        return list(numbers)
