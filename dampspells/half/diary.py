"""Diaries: what is known of each hour."""

from dampspells.base.errors import BadDiary, Clash
from dampspells.half.marks import ANY, COAT, allows_letter, common_mark, is_mark

MOST_MARKS = 30


class Diary:
    """The diary with these marks, one for each hour."""

    def __init__(self, marks):
        if not 1 <= len(marks) <= MOST_MARKS or not all([is_mark(mark) for mark in marks]):
            raise BadDiary(f"a diary has 1 to {MOST_MARKS} marks")
        if marks[0] != COAT:
            raise BadDiary("a diary starts with a coat")
        self.marks = marks

    @property
    def size(self):
        return len(self.marks)

    def __eq__(self, other):
        return isinstance(other, Diary) and self.marks == other.marks

    def __and__(self, other):
        if self.size != other.size:
            raise BadDiary("the diaries have different sizes")
        marks = [common_mark(one, also) for one, also in zip(self.marks, other.marks)]
        if None in marks:
            raise Clash(marks.index(None) + 1)
        return Diary("".join(marks))

    def allows(self, world):
        """True if each letter of the text is allowed and there is one for each hour, otherwise False."""
        letters = list(zip(self.marks, world))
        return len(world) == self.size and all([allows_letter(mark, letter) for mark, letter in letters])

    @staticmethod
    def blank(n):
        """The diary of n hours that says nothing."""
        if not 1 <= n <= MOST_MARKS:
            raise BadDiary(f"a diary has 1 to {MOST_MARKS} hours")
        return Diary(COAT + ANY * (n - 1))
