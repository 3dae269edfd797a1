"""What deeds make of the work that a desk follows.

Such a work is a dict with the items "lacquer", "climate", "now" (the present hour), "coats" (the tuple of their hours),
"told" (the text of the told signs), "heated" (the ascending tuple of the heated hours) and "spoilt" (the hour in which
the work was spoilt, or None). It is never changed: what a deed makes of it is a new one.
"""

from dampspells.base.errors import BadKind, Refused, TooLarge
from dampspells.base.lacquer import Lacquer
from dampspells.sky.climate import Climate
from dampspells.sky.member import breach, next_signs
from dampspells.sky.weather import DRY, MOST_HOURS, Weather
from dampspells.web.sizes import MOST_FARTHEST, MOST_NEED, MOST_PEAK, check_climate


def first_work(lacquer, climate, signs):
    """The work in hour 2."""
    return {"lacquer": lacquer, "climate": climate, "now": 2, "coats": (1,), "told": signs, "heated": (),
            "spoilt": None}


def work_after(work, deed):
    """What the deed makes of the work; raises `Refused` if it is refused."""
    if work["spoilt"] is not None:
        raise Refused("spoilt")
    action = ACTIONS[deed[0]]
    rest = deed[1:]
    return action(work, *rest)


def told_weather(work):
    """The weather of the told hours."""
    return Weather.of_signs(work["told"])


def since_last(work):
    """The number of hours from the last coat to the present hour."""
    return work["now"] - work["coats"][-1]


def can_take_coat(work, hour):
    """True if the told hour is dry or heated, otherwise False."""
    return work["told"][hour - 1] == DRY or hour in work["heated"]


def is_lost(work):
    """True if the work will be spoilt without more heating and with the same lacquer, otherwise False."""
    lacquer = work["lacquer"]
    last_told = len(work["told"])
    reached = [work["coats"][-1]]
    for hour in range(work["now"], last_told + 1):
        if can_take_coat(work, hour) and any([hour - before in lacquer for before in reached]):
            reached.append(hour)
    return reached[-1] + lacquer.b <= last_told


def _lay(work, sign):
    if not can_take_coat(work, work["now"]):
        raise Refused("damp")
    if since_last(work) < work["lacquer"].a:
        raise Refused("early")
    later = _one_hour_on(work, sign)
    return {**later, "coats": work["coats"] + (work["now"],)}


def _wait(work, sign):
    later = _one_hour_on(work, sign)
    if since_last(work) >= work["lacquer"].b:
        return {**later, "spoilt": work["now"]}
    return later


def _heat(work, hour):
    if not work["now"] <= hour <= len(work["told"]):
        raise Refused("hour")
    if can_take_coat(work, hour):
        raise Refused("dry")
    return {**work, "heated": tuple(sorted(list(work["heated"]) + [hour]))}


def _take_lacquer(work, a, b):
    if not 1 <= a < b <= MOST_FARTHEST:
        raise Refused("numbers")
    if since_last(work) > b:
        raise Refused("late")
    return {**work, "lacquer": Lacquer(a, b)}


def _take_climate(work, kinds):
    climate = _small_climate(list(kinds))
    if climate is None:
        raise Refused("kinds")
    if breach(climate, told_weather(work)) is not None:
        raise Refused("climate")
    return {**work, "climate": climate}


ACTIONS = {"lay": _lay, "wait": _wait, "heat": _heat, "lacquer": _take_lacquer, "climate": _take_climate}


def _one_hour_on(work, sign):
    if len(work["told"]) == MOST_HOURS:
        raise Refused("full")
    if sign not in next_signs(work["climate"], told_weather(work)):
        raise Refused("climate")
    return {**work, "now": work["now"] + 1, "told": work["told"] + sign}


def _small_climate(kinds):
    """The climate with these kinds, or None if they are refused or too large for a desk."""
    try:
        climate = Climate(kinds)
        check_climate(climate, MOST_NEED, MOST_PEAK)
    except (BadKind, TooLarge):
        return None
    return climate
