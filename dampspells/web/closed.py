"""Closed lists of stands, and what spoils the work with a step set."""

from dampspells.sky.weather import DAMP, DRY
from dampspells.web.explore import END, explore
from dampspells.web.sizes import check_climate
from dampspells.web.stands import first_stand, next_stand

LISTED_NEED = 12
LISTED_PEAK = 8


class StepWeb:
    """The stands of a step set in a climate; the end is a stand without ages."""

    def __init__(self, steps, climate):
        self.steps = steps
        self.climate = climate

    def starts(self):
        return [(DRY, first_stand())]

    def after(self, stand, sign):
        later = next_stand(self.steps, self.climate, stand, sign)
        if later is not None and not later[1]:
            return END
        return later


def closed_list(steps, climate):
    """The closed list, or None if the step set is not kept."""
    stands, _ = _explored(steps, climate)
    return stands


def list_holds(steps, climate, stands):
    """True if the list holds, otherwise False."""
    listed = set(stands)
    if first_stand() not in listed:
        return False
    later = [next_stand(steps, climate, stand, sign) for stand in stands for sign in (DRY, DAMP)]
    return all([ages for _, ages in stands]) and all([stand is None or stand in listed for stand in later])


def shortest_spoiler(steps, climate):
    """The shortest spoiler, a text of signs, or None if the step set is kept."""
    _, text = _explored(steps, climate)
    return text


def _explored(steps, climate):
    check_climate(climate, LISTED_NEED, LISTED_PEAK)
    return explore(StepWeb(steps, climate))
