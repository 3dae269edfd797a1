"""Which lacquers a diary fits."""

from dampspells.base.errors import BadNumber, TooLarge
from dampspells.base.lacquer import Lacquer
from dampspells.half.worlds import world_count

MOST_B = 6
MOST_FITTED = 20


def fitting(diary, climate, most):
    """For each a from 1 to most - 1 the least b of at most `most` that the diary fits, or None."""
    if not 2 <= most <= MOST_B:
        raise BadNumber(f"lacquers are tried for b up to 2 to {MOST_B}")
    if diary.size > MOST_FITTED:
        raise TooLarge(f"the diary has more than {MOST_FITTED} hours")
    return [_least_b(diary, climate, a, most) for a in range(1, most)]


def _least_b(diary, climate, a, most):
    for b in range(a + 1, most + 1):
        if world_count(diary, Lacquer(a, b), climate) > 0:
            return b
    return None
