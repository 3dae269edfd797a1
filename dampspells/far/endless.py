"""Endless rows of coats."""

from dampspells.base.ratio import Ratio


class EndlessRow:
    """The row in which each coat is laid in the first open hour that is at least a hours after the one before.

    `flags` tells for the hours from 1 on whether they are open; the last `again` of these flags go on and on.
    """

    def __init__(self, flags, again, a):
        before = len(flags) - again
        hours = [1]
        seen = {}
        # What follows a coat in a round depends on its place in the round alone.
        while hours[-1] <= before or hours[-1] % again not in seen:
            if hours[-1] > before:
                seen[hours[-1] % again] = len(hours) - 1
            hours.append(_first_open(flags, again, hours[-1] + a))
        self._hours = hours
        self._start = seen[hours[-1] % again]
        self._many = len(hours) - 1 - self._start
        self._further = hours[-1] - hours[self._start]

    def hour_of(self, n):
        """The hour of coat n."""
        rounds = max(0, (n - self._start) // self._many)
        return self._hours[n - rounds * self._many] + rounds * self._further

    def coats_by(self, hour):
        """The greatest n such that coat n is laid in this hour or earlier."""
        rounds = max(0, (hour - self._hours[self._start]) // self._further)
        rest = hour - rounds * self._further
        return len([early for early in self._hours if early <= rest]) - 1 + rounds * self._many

    def pace(self):
        """The hours from coat to coat, in the long run."""
        return Ratio(self._further, self._many)


def flag_of(flags, again, hour):
    """The flag of an hour, if the last `again` flags go on and on."""
    if hour <= len(flags):
        return flags[hour - 1]
    return flags[len(flags) - again + (hour - len(flags) - 1) % again]


def _first_open(flags, again, soonest):
    hour = soonest
    while not flag_of(flags, again, hour):
        hour = hour + 1
    return hour
