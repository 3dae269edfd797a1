"""Climates with the same sound lacquers."""

from itertools import combinations

from dampspells.base.errors import TooLarge
from dampspells.base.lacquer import Lacquer
from dampspells.compare.hardness import sound_lacquers
from dampspells.lead.tops import greatest
from dampspells.sky.climate import Climate
from dampspells.sky.kinds import MOST_SPELL
from dampspells.sky.order import shared

MOST_CHOSEN = 8


def widest(climate):
    """The climate above all climates with the same sound lacquers."""
    tops = [greatest(Lacquer(a, b)) for a, b in sound_lacquers(climate)]
    if not tops:
        return Climate.single(MOST_SPELL, 1)
    return shared(*tops)


def leanest(climate):
    """The fewest kinds of the plain list whose climate has the same sound lacquers, a list of pairs."""
    kinds = list(climate)
    if len(kinds) > MOST_CHOSEN:
        raise TooLarge(f"the climate has more than {MOST_CHOSEN} kinds")
    sound = sound_lacquers(climate)
    for many in range(len(kinds)):
        for chosen in combinations(kinds, many):
            if sound_lacquers(Climate(list(chosen))) == sound:
                return list(chosen)
    return kinds
