"""Weathers."""

from dampspells.base.errors import BadHour, BadWeather

DRY = "."
DAMP = "#"
MOST_HOURS = 200


class Weather:
    """The weather whose runs and spells in turn have the given lengths, beginning with a run."""

    def __init__(self, lengths):
        if not lengths or min(lengths) < 1 or sum(lengths) > MOST_HOURS:
            raise BadWeather(f"a weather has 1 to {MOST_HOURS} hours in runs and spells of at least one hour")
        self.lengths = tuple(lengths)

    @property
    def hours(self):
        return sum(self.lengths)

    def __iter__(self):
        return iter(self.lengths)

    def __eq__(self, other):
        return isinstance(other, Weather) and self.lengths == other.lengths

    def __add__(self, other):
        if _ends_damp(self.lengths):
            return Weather(self.lengths + other.lengths)
        # The last run of the one and the first run of the other are one run.
        middle = self.lengths[-1] + other.lengths[0]
        return Weather(self.lengths[:-1] + (middle,) + other.lengths[1:])

    @staticmethod
    def of_signs(signs):
        """The weather with these signs."""
        if not 1 <= len(signs) <= MOST_HOURS or signs[0] != DRY:
            raise BadWeather(f"the signs of a weather are 1 to {MOST_HOURS}, and the first one is dry")
        if signs.count(DRY) + signs.count(DAMP) != len(signs):
            raise BadWeather("a sign is neither dry nor damp")
        return Weather(lengths_of(signs))

    def signs(self):
        """The text of the signs."""
        return "".join([(DRY, DAMP)[at % 2] * length for at, length in enumerate(self.lengths)])

    def is_dry(self, hour):
        """True if the told hour is dry, otherwise False."""
        self._check_told(hour)
        return self.signs()[hour - 1] == DRY

    def first(self, n):
        """The weather of the first n hours."""
        self._check_told(n)
        return Weather.of_signs(self.signs()[:n])

    def runs(self):
        """Yields the first hour and the length of each run."""
        hour = 1
        for at, length in enumerate(self.lengths):
            if at % 2 == 0:
                yield (hour, length)
            hour = hour + length

    def spells(self):
        """Yields the first hour and the length of each spell, and the length of its run."""
        hour = 1
        for run, length in zip(self.lengths[::2], self.lengths[1::2]):
            yield (hour + run, length, run)
            hour = hour + run + length

    def back(self):
        """The weather of the same hours in reverse order."""
        if _ends_damp(self.lengths):
            raise BadWeather("a weather does not begin with a damp hour")
        return Weather(self.lengths[::-1])

    def _check_told(self, hour):
        if not 1 <= hour <= self.hours:
            raise BadHour(f"hour {hour} is not told")


def lengths_of(signs):
    """The lengths of the runs and spells in turn."""
    lengths = []
    last = None
    for sign in signs:
        if sign == last:
            lengths[-1] = lengths[-1] + 1
        else:
            lengths.append(1)
        last = sign
    return lengths


def _ends_damp(lengths):
    return len(lengths) % 2 == 0
