"""By how much a number must change to make the work sound."""

from dampspells.base.errors import BadNumber
from dampspells.base.lacquer import Lacquer
from dampspells.lead.tops import greatest
from dampspells.lead.verdict import is_sound
from dampspells.sky.kinds import check_kind


def least_run(lacquer, w):
    """The least g for which the kind (w, g) is sound, or None."""
    check_kind(w, 1)
    if w >= lacquer.b:
        return None
    return lacquer.lead(w) + 1


def longest_spell(lacquer, g):
    """The greatest w for which the kind (w, g) is sound."""
    check_kind(1, g)
    return greatest(lacquer).longest(g)


def greatest_a(climate, b):
    """The greatest a for which the lacquer of a and b is sound, or None."""
    if not 2 <= b <= Lacquer.MOST:
        raise BadNumber(f"the number b of a lacquer is 2 to {Lacquer.MOST}")
    return max([a for a in range(1, b) if is_sound(Lacquer(a, b), climate)], default=None)
