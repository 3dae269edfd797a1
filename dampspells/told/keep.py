"""The keepings of one told weather: counted, listed and numbered."""

from dampspells.base.errors import BadNumber, BadRow
from dampspells.sky.weather import DRY
from dampspells.told.reach import are_dry


def is_keeping(lacquer, weather, row):
    """True if the list is a keeping of the weather, otherwise False."""
    if not row or row[0] != 1 or not are_dry(weather, row):
        return False
    fits = all([later - hour in lacquer for hour, later in zip(row, row[1:])])
    return fits and row[-1] + lacquer.b > weather.hours


def ways(lacquer, weather):
    """The number of keepings."""
    return _ways_on(lacquer, weather)[1]


def closed_ways(lacquer, weather):
    """The number of the rows of coats whose last item is the last told hour."""
    many = [0, 1]
    for sign in weather.signs()[1:]:
        hour = len(many)
        before = many[max(0, hour - lacquer.b):max(0, hour - lacquer.a + 1)]
        many.append(sum(before) if sign == DRY else 0)
    return many[-1]


def keepings(lacquer, weather):
    """Yields the keepings as lists, in their order."""
    many = _ways_on(lacquer, weather)
    pending = [([1], False)]
    while pending:
        row, whole = pending.pop()
        if whole:
            yield row
        else:
            # The last one is taken first: a row that ends comes after all that go on from it.
            if row[-1] + lacquer.b > weather.hours:
                pending.append((row, True))
            for hour in reversed(_hours_on(lacquer, many, row[-1])):
                pending.append((row + [hour], False))


def keeping_at(lacquer, weather, place):
    """The keeping with this place."""
    many = _ways_on(lacquer, weather)
    if not 0 <= place < many[1]:
        raise BadNumber(f"there is no keeping with the place {place}")
    row = [1]
    left = place
    while left < sum(_counts_on(lacquer, many, row[-1])):
        for hour in _hours_on(lacquer, many, row[-1]):
            if left < many[hour]:
                row.append(hour)
                break
            left = left - many[hour]
    return row


def place_of(lacquer, weather, row):
    """The place of the keeping."""
    if not is_keeping(lacquer, weather, row):
        raise BadRow("the row is not a keeping of the weather")
    many = _ways_on(lacquer, weather)
    place = sum(_counts_on(lacquer, many, row[-1]))
    for hour, later in zip(row, row[1:]):
        place = place + sum(many[hour + lacquer.a:later])
    return place


def _ways_on(lacquer, weather):
    """For each hour from 0 on, in how many ways a row with a coat in it can go on and end as a keeping does."""
    signs = weather.signs()
    many = [0] * (weather.hours + 1)
    for hour in range(weather.hours, 0, -1):
        if signs[hour - 1] == DRY:
            ending = 1 if hour + lacquer.b > weather.hours else 0
            many[hour] = ending + sum(_counts_on(lacquer, many, hour))
    return many


def _counts_on(lacquer, many, hour):
    """The counts of the told hours in which the coat after one in this hour can be laid."""
    return many[hour + lacquer.a:hour + lacquer.b + 1]


def _hours_on(lacquer, many, hour):
    """The ascending list of the hours of the next coat in the keepings with a coat in this hour."""
    return [later for later, count in enumerate(_counts_on(lacquer, many, hour), start=hour + lacquer.a) if count > 0]
