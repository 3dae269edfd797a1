"""Climates."""

from dampspells.sky.kinds import check_kinds, plain_list


class Climate:
    """The climate with the given kinds; `kinds` is its plain list."""

    def __init__(self, kinds):
        check_kinds(kinds)
        self.kinds = tuple(plain_list(kinds))

    @property
    def need(self):
        return max([g for w, g in self.kinds], default=0)

    @property
    def peak(self):
        return max([w for w, g in self.kinds], default=0)

    def __iter__(self):
        return iter(self.kinds)

    def __eq__(self, other):
        return isinstance(other, Climate) and self.kinds == other.kinds

    def __contains__(self, weather):
        lengths = weather.lengths
        return all([spell <= self.longest(run) for run, spell in zip(lengths[::2], lengths[1::2])])

    def __or__(self, other):
        return Climate([*self.kinds, *other.kinds])

    def __and__(self, other):
        return Climate([(min(w, v), max(g, r)) for w, g in self.kinds for v, r in other.kinds])

    @staticmethod
    def dry():
        """The climate without kinds."""
        return Climate([])

    @classmethod
    def single(cls, w, g):
        """The climate with this one kind."""
        return cls([(w, g)])

    def longest(self, run):
        """The greatest number of hours of a spell whose run has this length."""
        return max([w for w, g in self.kinds if g <= run], default=0)

    def least_run(self, w):
        """The least g among the kinds whose first number is at least w, or None."""
        return min([g for v, g in self.kinds if v >= w], default=None)
