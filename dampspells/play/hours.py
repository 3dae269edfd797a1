"""What habits do from hour to hour.

The stand of a habit is a tuple (age, dry, ahead, sky) after an hour: the number of hours since the last coat, the
number of dry hours of the run so far, but at most the cap, the signs that are seen ahead, and the sky after them.
"""

from dampspells.sky.follow import FIRST_SKY, following, next_sky
from dampspells.sky.weather import DRY


def lays(habit, steps, age, dry, ahead):
    """True if the habit lays a coat in an hour, otherwise False; at least the signs that it sees are passed."""
    return dry > 0 and age in steps and habit(age, dry, ahead[:habit.sight])


def played(habit, steps, farthest, signs):
    """The pair of the list of the hours of the coats and the hour in which the work is spoilt, or None."""
    coats = [1]
    dry = 1
    for hour in range(2, len(signs) - habit.sight + 1):
        dry = dry + 1 if signs[hour - 1] == DRY else 0
        age = hour - coats[-1]
        if lays(habit, steps, age, dry, signs[hour:]):
            coats.append(hour)
        elif age >= farthest:
            return (coats, hour)
    return (coats, None)


def dry_cap(climate, rows):
    """The number of dry hours beyond which more of them make no difference."""
    return max([1, climate.need] + [row[1] for row in rows])


def first_stands(climate, sight):
    """The pairs of the signs that are told in the beginning and the stand after hour 1, in the order of the signs."""
    return [(DRY + ahead, (0, 1, ahead, sky)) for ahead, sky in following(climate, FIRST_SKY, sight)]


def next_hour(climate, cap, stand, sign):
    """The stand in the next hour before anything is laid, with the further sign; None if this cannot follow."""
    age, dry, ahead, sky = stand
    after = next_sky(climate, sky, sign)
    if after is None:
        return None
    signs = ahead + sign
    dry = min(dry + 1, cap) if signs[0] == DRY else 0
    return (age + 1, dry, signs[1:], after)
