"""Exact fractions."""

from math import gcd

from dampspells.base.errors import BadRatio
from dampspells.base.whole import ceil_div


class Ratio:
    """The fraction top / bottom, kept in lowest terms with a positive bottom."""

    def __init__(self, top, bottom=1):
        if bottom == 0:
            raise BadRatio("the bottom of a fraction is 0")
        common = gcd(top, bottom)
        if bottom < 0:
            common = -common
        self.top = top // common
        self.bottom = bottom // common

    def __add__(self, other):
        return Ratio(self.top * other.bottom + other.top * self.bottom, self.bottom * other.bottom)

    def __sub__(self, other):
        return Ratio(self.top * other.bottom - other.top * self.bottom, self.bottom * other.bottom)

    def __mul__(self, other):
        return Ratio(self.top * other.top, self.bottom * other.bottom)

    def __neg__(self):
        return Ratio(-self.top, self.bottom)

    def __eq__(self, other):
        return isinstance(other, Ratio) and self.top == other.top and self.bottom == other.bottom

    def compare(self, other):
        """-1, 0 or 1, as this fraction is less than, equal to or greater than the other one."""
        left = self.top * other.bottom
        right = other.top * self.bottom
        if left < right:
            return -1
        if left > right:
            return 1
        return 0

    def floor(self):
        """The greatest integer that is not greater."""
        return self.top // self.bottom

    def ceiling(self):
        """The least integer that is not less."""
        return ceil_div(self.top, self.bottom)

    def text(self):
        """The top, a slash and the bottom, or the top alone if the bottom is 1."""
        if self.bottom == 1:
            return str(self.top)
        return f"{self.top}/{self.bottom}"
