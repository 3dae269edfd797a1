"""Which weathers a climate has."""

from dampspells.base.errors import Strange
from dampspells.sky.climate import Climate
from dampspells.sky.kinds import MOST_RUN, MOST_SPELL
from dampspells.sky.weather import DAMP, DRY, Weather


def breach(climate, weather):
    """The least h such that the first h hours are not of the climate, or None."""
    for start, length, run in weather.spells():
        most = climate.longest(run)
        if length > most:
            return start + most
    return None


def check_member(climate, weather):
    """Raises `Strange` if the weather is not of the climate."""
    hour = breach(climate, weather)
    if hour is not None:
        raise Strange(hour)


def next_signs(climate, weather):
    """The list of the signs that the hour after the told hours can have."""
    check_member(climate, weather)
    if _damp_can_follow(climate, weather.lengths):
        return [DRY, DAMP]
    return [DRY]


def _damp_can_follow(climate, lengths):
    if len(lengths) % 2 == 1:
        return climate.longest(lengths[-1]) >= 1
    return climate.longest(lengths[-2]) > lengths[-1]


def fullest(climate, runs):
    """The weather with these runs in which each spell is as long as the climate lets it be."""
    lengths = []
    for run in runs[:-1]:
        lengths.extend([run, climate.longest(run)])
    # What is not a weather, a spell of 0 hours too, is refused by the class.
    return Weather(lengths + runs[-1:])


def least_climate(*weathers):
    """The least climate of which all these weathers are, or None."""
    whole = Climate.dry()
    for weather in weathers:
        kinds = [(length, min(run, MOST_RUN)) for start, length, run in weather.spells()]
        if any([w > MOST_SPELL for w, g in kinds]):
            return None
        # One climate for each weather: all spells together may be more than a climate takes.
        whole = whole | Climate(kinds)
    return whole
