"""Which lacquers are sound for a climate."""

from dampspells.base.errors import BadNumber
from dampspells.base.lacquer import Lacquer
from dampspells.base.whole import ceil_div


def least_b(climate, a):
    """The least b for which all kinds of the climate are sound with the numbers a and b."""
    if not 1 <= a < Lacquer.MOST:
        raise BadNumber(f"the number a of a lacquer is 1 to {Lacquer.MOST - 1}")
    return max([a + 1] + [max(w + 1, a + ceil_div(w, ceil_div(g, a))) for w, g in climate])


def sound_lacquers(climate):
    """The list of the pairs (a, b) of all sound lacquers, in ascending order of a, then b."""
    return [(a, b) for a in range(1, Lacquer.MOST) for b in range(least_b(climate, a), Lacquer.MOST + 1)]


def no_harder(one, other):
    """True if each lacquer that is sound for the other climate is sound for the one, otherwise False."""
    sound = sound_lacquers(one)
    return all([pair in sound for pair in sound_lacquers(other)])


def parting_lacquer(one, other):
    """The first pair (a, b) of a lacquer that is sound for just one of the two climates, or None."""
    parting = sorted(set(sound_lacquers(one)) ^ set(sound_lacquers(other)))
    return parting[0] if parting else None
