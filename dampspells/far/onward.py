"""In how many ways weathers can go on."""

from dampspells.base.errors import BadNumber
from dampspells.sky.follow import all_skies, next_skies
from dampspells.sky.weather import MOST_HOURS


def check_hours(n):
    """Raises `BadNumber` if no weather has so many hours."""
    if not 1 <= n <= MOST_HOURS:
        raise BadNumber(f"a weather has 1 to {MOST_HOURS} hours")


def counts_onward(climate, most):
    """For `most` further hours, then for one less and so on to none, a dict of all skies.

    It tells for each sky how many texts of so many signs can follow it.
    """
    later = {sky: [after for _, after in next_skies(climate, sky)] for sky in all_skies(climate)}
    counts = [{sky: 1 for sky in later}]
    for _ in range(most):
        before = counts[-1]
        counts.append({sky: sum([before[after] for after in skies]) for sky, skies in later.items()})
    return counts[::-1]
