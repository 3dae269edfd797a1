"""Where two habits part."""

from dampspells.play.hours import dry_cap, first_stands, lays, next_hour
from dampspells.web.explore import END, explore
from dampspells.web.sizes import check_small


class PairWeb:
    """The stands of two habits that have laid the same coats; the end is a coat of just one of them."""

    def __init__(self, one, other, steps, climate):
        self.one = one
        self.other = other
        self.steps = steps
        self.climate = climate
        self.cap = dry_cap(climate, one.rows + other.rows)

    def starts(self):
        return first_stands(self.climate, max(self.one.sight, self.other.sight))

    def after(self, stand, sign):
        hour = next_hour(self.climate, self.cap, stand, sign)
        if hour is None:
            return None
        age, dry, ahead, sky = hour
        laid = lays(self.one, self.steps, age, dry, ahead)
        if laid != lays(self.other, self.steps, age, dry, ahead):
            return END
        if laid:
            return (0, dry, ahead, sky)
        # Where the work of both is spoilt they do not part any more.
        return hour if age < self.steps.farthest else None


def habits_part(one, other, steps, climate):
    """The signs of the shortest weather in which the two habits part, or None."""
    check_small(steps.farthest, climate)
    _, text = explore(PairWeb(one, other, steps, climate))
    return text
