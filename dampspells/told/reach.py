"""Which hours coats can have in one told weather."""

from dampspells.base.errors import BadNumber
from dampspells.sky.weather import DRY


def reached(lacquer, weather):
    """The ascending list of the reached hours."""
    return [hour for hour, flag in enumerate(_reached_flags(lacquer, weather)) if flag]


def possible(lacquer, weather, n):
    """The ascending list of the hours of coat n in the rows of coats."""
    if n < 0:
        raise BadNumber("a coat has no negative number")
    signs = weather.signs()
    hours = [1]
    for _ in range(n):
        if not hours:
            break
        hours = _next_hours(lacquer, signs, hours)
    return hours


def live(lacquer, weather):
    """The ascending list of the live hours."""
    came = _reached_flags(lacquer, weather)
    lasts = _lasting_flags(lacquer, weather)
    return [hour for hour, flag in enumerate(came) if flag and lasts[hour]]


def spoilt_hour(lacquer, weather):
    """The spoilt hour, or None if the weather is not spoilt."""
    hour = reached(lacquer, weather)[-1] + lacquer.b
    if hour > weather.hours:
        return None
    return hour


def blame(lacquer, weather):
    """None if the weather is not spoilt, otherwise the ascending list of the reached hours."""
    if spoilt_hour(lacquer, weather) is None:
        return None
    return reached(lacquer, weather)


def blame_holds(lacquer, weather, hours):
    """True if the list is strictly ascending and a blame of the weather, otherwise False."""
    if not _ascends(hours) or not are_dry(weather, hours) or 1 not in hours:
        return False
    signs = weather.signs()
    closed = all([hour in hours for hour in _next_hours(lacquer, signs, hours)])
    return closed and hours[-1] + lacquer.b <= weather.hours


def are_dry(weather, hours):
    """True if all these hours are dry told hours, otherwise False."""
    signs = weather.signs()
    return all([1 <= hour <= len(signs) and signs[hour - 1] == DRY for hour in hours])


def _reached_flags(lacquer, weather):
    """For each hour from 0 on, whether some row of coats contains it; hour 0 only gives the list plain indices."""
    signs = weather.signs()
    flags = [False, True]
    for hour in range(2, weather.hours + 1):
        before = flags[max(0, hour - lacquer.b):max(0, hour - lacquer.a + 1)]
        flags.append(signs[hour - 1] == DRY and any(before))
    return flags


def _lasting_flags(lacquer, weather):
    """For each hour from 0 on, whether a coat in it can be followed by others until the told hours end."""
    signs = weather.signs()
    flags = [False] * (weather.hours + 1)
    for hour in range(weather.hours, 0, -1):
        ends = hour + lacquer.b > weather.hours
        after = flags[hour + lacquer.a:hour + lacquer.b + 1]
        flags[hour] = signs[hour - 1] == DRY and (ends or any(after))
    return flags


def _next_hours(lacquer, signs, hours):
    """The ascending list of the dry told hours that can follow one of these hours."""
    steps = range(lacquer.a, lacquer.b + 1)
    later = sorted({hour + step for hour in hours for step in steps if hour + step <= len(signs)})
    return [hour for hour in later if signs[hour - 1] == DRY]


def _ascends(hours):
    return all([one < other for one, other in zip(hours, hours[1:])])
