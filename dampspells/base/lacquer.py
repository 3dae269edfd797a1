"""Lacquers."""

from dampspells.base.errors import BadLacquer, BadNumber
from dampspells.base.whole import ceil_div


class Lacquer:
    """A lacquer whose next coat is laid at least a and at most b hours after the last one."""

    MOST = 12

    def __init__(self, a, b):
        if not 1 <= a < b <= Lacquer.MOST:
            raise BadLacquer(f"a lacquer has no numbers {a} and {b}")
        self.a = a
        self.b = b

    @property
    def slack(self):
        return self.b - self.a

    def __eq__(self, other):
        return isinstance(other, Lacquer) and self.a == other.a and self.b == other.b

    def __contains__(self, step):
        return self.a <= step <= self.b

    def spans(self, w):
        """ceil(w / slack), for w >= 0."""
        if w < 0:
            raise BadNumber("a spell has no negative number of hours")
        return ceil_div(w, self.slack)

    def turns(self, g):
        """ceil(g / a), for g >= 0."""
        if g < 0:
            raise BadNumber("a run has no negative number of hours")
        return ceil_div(g, self.a)

    def lead(self, w):
        """(spans(w) - 1) * a, for w >= 1."""
        if w < 1:
            raise BadNumber("only a spell of at least one hour has a lead")
        return (self.spans(w) - 1) * self.a


def lacquers(most):
    """Yields the lacquers with b <= most in ascending order of a, then b."""
    for a in range(1, most):
        for b in range(a + 1, most + 1):
            yield Lacquer(a, b)
