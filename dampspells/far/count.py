"""How many weathers a climate has."""

from dampspells.base.errors import BadNumber
from dampspells.far.onward import check_hours, counts_onward
from dampspells.sky.follow import FIRST_SKY
from dampspells.web.closed import LISTED_NEED, LISTED_PEAK, StepWeb
from dampspells.web.explore import count_texts
from dampspells.web.sizes import check_climate

MOST_KEPT = 40


def weathers(climate, n):
    """The number of weathers of n hours."""
    check_hours(n)
    return counts_onward(climate, n - 1)[0][FIRST_SKY]


def kept_weathers(steps, climate, n):
    """The number of weathers of n hours that are not spoilt for the step set."""
    if not 1 <= n <= MOST_KEPT:
        raise BadNumber(f"weathers that are not spoilt are counted for 1 to {MOST_KEPT} hours")
    check_climate(climate, LISTED_NEED, LISTED_PEAK)
    return count_texts(StepWeb(steps, climate), n - 1)
