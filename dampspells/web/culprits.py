"""Which kinds are to blame if a step set is not kept."""

from itertools import combinations

from dampspells.base.errors import TooLarge
from dampspells.sky.climate import Climate
from dampspells.web.closed import closed_list
from dampspells.web.sizes import check_small

MOST_BLAMED = 3


def culprits(steps, climate):
    """The list of the culprits, or None if the step set is kept."""
    check_small(steps.farthest, climate)
    kinds = list(climate)
    if len(kinds) > MOST_BLAMED:
        raise TooLarge(f"the climate has more than {MOST_BLAMED} kinds")
    for many in range(1, len(kinds) + 1):
        for chosen in combinations(kinds, many):
            if closed_list(steps, Climate(list(chosen))) is None:
                return list(chosen)
    return None
