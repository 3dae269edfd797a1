"""Whether a habit keeps up the work."""

from dampspells.base.errors import BadNumber
from dampspells.play.hours import dry_cap, first_stands, lays, next_hour, played
from dampspells.web.explore import END, SkyWeb, count_texts, explore
from dampspells.web.sizes import check_small

MOST_COUNTED = 30


class HabitWeb:
    """The stands of a habit; the end is spoilt work."""

    def __init__(self, habit, steps, climate):
        self.habit = habit
        self.steps = steps
        self.climate = climate
        self.cap = dry_cap(climate, habit.rows)

    def starts(self):
        return first_stands(self.climate, self.habit.sight)

    def after(self, stand, sign):
        hour = next_hour(self.climate, self.cap, stand, sign)
        if hour is None:
            return None
        age, dry, ahead, sky = hour
        if lays(self.habit, self.steps, age, dry, ahead):
            return (0, dry, ahead, sky)
        return hour if age < self.steps.farthest else END


def play(habit, steps, weather):
    """The pair of the list of the hours of the coats and the hour in which the work is spoilt, or None."""
    return played(habit, steps, steps.farthest, weather.signs())


def spoils(habit, steps, climate):
    """The signs of the shortest weather in which the habit's work is spoilt, or None."""
    _, text = _explored(habit, steps, climate)
    return text


def habit_stands(habit, steps, climate):
    """The list of the stands of the habit, or None if its work is spoilt in some weather."""
    stands, _ = _explored(habit, steps, climate)
    return stands


def spoilt_count(habit, steps, climate, n):
    """The number of the weathers of n hours in which the habit's work is spoilt."""
    if not 1 <= n <= MOST_COUNTED:
        raise BadNumber(f"weathers are counted for 1 to {MOST_COUNTED} hours")
    check_small(steps.farthest, climate)
    decided = n - 1 - habit.sight
    if decided < 1:
        return 0
    return count_texts(SkyWeb(climate), n - 1) - count_texts(HabitWeb(habit, steps, climate), decided)


def _explored(habit, steps, climate):
    check_small(steps.farthest, climate)
    return explore(HabitWeb(habit, steps, climate))
