"""The earliest and the latest keepings of one told weather."""

from dampspells.base.errors import Spoilt
from dampspells.told.reach import live, spoilt_hour


def earliest(lacquer, weather):
    """The earliest keeping."""
    _, most = fewest_most(lacquer, weather)
    return earliest_with(lacquer, weather, most)


def latest(lacquer, weather):
    """The latest keeping."""
    fewest, _ = fewest_most(lacquer, weather)
    return latest_with(lacquer, weather, fewest)


def fewest_most(lacquer, weather):
    """The pair of the least and the greatest last index of a keeping."""
    return _tails(lacquer, weather)[1]


def earliest_with(lacquer, weather, n):
    """The earliest keeping with the last index n, or None."""
    return _keeping_with(lacquer, _tails(lacquer, weather), n, 0)


def latest_with(lacquer, weather, n):
    """The latest keeping with the last index n, or None."""
    return _keeping_with(lacquer, _tails(lacquer, weather), n, -1)


def _tails(lacquer, weather):
    """For each live hour the pair of the fewest and the most coats that can follow one in it."""
    spoilt = spoilt_hour(lacquer, weather)
    if spoilt is not None:
        raise Spoilt(spoilt)
    tails = {}
    for hour in reversed(live(lacquer, weather)):
        after = [tails[later] for later in _hours_on(lacquer, tails, hour)]
        ends = hour + lacquer.b > weather.hours
        fewest = 0 if ends else 1 + min([few for few, many in after])
        tails[hour] = (fewest, 1 + max([many for few, many in after], default=-1))
    return tails


def _keeping_with(lacquer, tails, n, choice):
    """The keeping with the last index n that takes the hour at this index of all that are possible, or None."""
    if not _can_follow(tails[1], n):
        return None
    row = [1]
    for left in range(n - 1, -1, -1):
        hours = [hour for hour in _hours_on(lacquer, tails, row[-1]) if _can_follow(tails[hour], left)]
        row.append(hours[choice])
    return row


def _can_follow(tail, many):
    # Each number between the fewest and the most coats is possible.
    fewest, most = tail
    return fewest <= many <= most


def _hours_on(lacquer, tails, hour):
    """The ascending list of the hours of the next coat in the keepings with a coat in this hour."""
    return [later for later in range(hour + lacquer.a, hour + lacquer.b + 1) if later in tails]
