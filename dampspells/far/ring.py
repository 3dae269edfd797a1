"""Coats in weathers that go on for ever."""

from dampspells.base.errors import BadNumber, Spoilt, Strange
from dampspells.far.endless import EndlessRow, flag_of
from dampspells.lead.good import good_hours
from dampspells.lead.verdict import check_sound
from dampspells.sky.weather import DRY, lengths_of

MOST_COATS = 10 ** 15
MOST_HOUR = 10 ** 17


def rule_hour(lacquer, climate, weather, n):
    """The hour of coat n in the row of the rule."""
    return _hour_of(_rule_row(lacquer, climate, weather), n)


def best_hour(lacquer, weather, n):
    """The hour of coat n in the earliest endless row."""
    return _hour_of(_best_row(lacquer, weather), n)


def rule_coats(lacquer, climate, weather, hour):
    """The greatest n such that the rule lays coat n in this hour or earlier."""
    return _coats_by(_rule_row(lacquer, climate, weather), hour)


def best_coats(lacquer, weather, hour):
    """The greatest n such that coat n of the earliest endless row is laid in this hour or earlier."""
    return _coats_by(_best_row(lacquer, weather), hour)


def rule_pace(lacquer, climate, weather):
    """The pace of the row of the rule."""
    return _rule_row(lacquer, climate, weather).pace()


def best_pace(lacquer, weather):
    """The pace of the earliest endless row."""
    return _best_row(lacquer, weather).pace()


def _hour_of(row, n):
    if not 0 <= n <= MOST_COATS:
        raise BadNumber(f"the number of a coat is 0 to {MOST_COATS} here")
    return row.hour_of(n)


def _coats_by(row, hour):
    if not 1 <= hour <= MOST_HOUR:
        raise BadNumber(f"an hour is 1 to {MOST_HOUR} here")
    return row.coats_by(hour)


def _rule_row(lacquer, climate, weather):
    check_sound(lacquer, climate)
    breach = weather.breach(climate)
    if breach is not None:
        raise Strange(breach)
    again = len(weather.again)
    # In the first round runs may still come from the beginning. The third one ends the runs of the second one; if it
    # does not, no spell follows them.
    signs = weather.beginning + weather.again * 3
    good = good_hours(lacquer, climate, lengths_of(signs))
    flags = [hour in good for hour in range(1, len(signs) - again + 1)]
    return EndlessRow(flags, again, lacquer.a)


def _best_row(lacquer, weather):
    flags = _endless_flags(lacquer, weather)
    if not flags[0]:
        raise Spoilt(_spoilt_hour(lacquer, weather))
    return EndlessRow(flags, len(weather.again), lacquer.a)


def _endless_flags(lacquer, weather):
    """For each hour of the beginning and of a round whether an endless row can go on from a coat in it."""
    again = len(weather.again)
    flags = [sign == DRY for sign in weather.beginning + weather.again]
    changed = True
    while changed:
        changed = False
        for hour in range(len(flags), 0, -1):
            later = range(hour + lacquer.a, hour + lacquer.b + 1)
            if flags[hour - 1] and not any([flag_of(flags, again, q) for q in later]):
                flags[hour - 1] = False
                changed = True
    return flags


def _spoilt_hour(lacquer, weather):
    """The spoilt hour of a long weather that is spoilt."""
    coats = {1: True}
    last = 1
    hour = 1
    while hour < last + lacquer.b:
        hour = hour + 1
        if weather.is_dry(hour) and any([hour - step in coats for step in range(lacquer.a, lacquer.b + 1)]):
            coats[hour] = True
            last = hour
    return hour
