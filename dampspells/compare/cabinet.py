"""Several lacquers, and which one is no worse than another one."""

from dampspells.base.errors import BadNumber
from dampspells.lead.tops import greatest
from dampspells.sky.order import beneath, parting, shared


def greatest_for(*lacquers):
    """The greatest climate that is sound for all the lacquers."""
    if not lacquers:
        raise BadNumber("there is no lacquer")
    tops = [greatest(lacquer) for lacquer in lacquers]
    return shared(*tops)


def no_worse(one, other):
    """True if each climate that is sound for the other lacquer is sound for the one, otherwise False."""
    return beneath(greatest(other), greatest(one))


def parting_kind(one, other):
    """The first kind (w, g) that is sound for the one lacquer and not for the other one, or None.

    The kind with the least g, and of several the one with the least w.
    """
    weather = parting(greatest(one), greatest(other))
    if weather is None:
        return None
    run, spell = weather.lengths
    return (spell, run)
