"""Heating: coats in damp hours, at a price."""

from dampspells.base.errors import BadHour, BadPrice
from dampspells.mend.prices import check_prices
from dampspells.sky.warm import warmed_signs
from dampspells.sky.weather import DAMP, Weather


def heating(lacquer, weather, prices):
    """The pair of the least cost of a warm row and the first one of the warm rows with this cost."""
    costs = _costs(weather, prices)
    rests = _rests(lacquer, costs)
    row = [1]
    while True:
        later = range(row[-1] + lacquer.a, min(row[-1] + lacquer.b, weather.hours) + 1)
        # A row that ends comes after all that go on from it: it ends only where each further hour costs more.
        cheapest = [hour for hour in later if costs[hour] + rests[hour] == rests[row[-1]]]
        if not cheapest:
            return (rests[1], row)
        row.append(cheapest[0])


def heat_labels(lacquer, weather, prices):
    """The list of the labels of all told hours."""
    costs = _costs(weather, prices)
    labels = [None, 0]
    for hour in range(2, weather.hours + 1):
        before = labels[max(0, hour - lacquer.b):max(0, hour - lacquer.a + 1)]
        least = min([label for label in before if label is not None], default=None)
        labels.append(None if least is None else least + costs[hour])
    return labels[1:]


def labels_hold(lacquer, weather, prices, cost, labels):
    """True if there is one label for each hour and they support the cost, otherwise False."""
    costs = _costs(weather, prices)
    if len(labels) != weather.hours or labels[0] is None or labels[0] > 0:
        return False
    for hour, label in enumerate(labels, start=1):
        if label is not None:
            if hour + lacquer.b > weather.hours and label < cost:
                return False
            later = range(hour + lacquer.a, min(hour + lacquer.b, weather.hours) + 1)
            if not all([_is_at_most(labels[q - 1], label + costs[q]) for q in later]):
                return False
    return True


def warmed(weather, hours):
    """The weather in which these hours are dry."""
    if not all([1 <= hour <= weather.hours for hour in hours]):
        raise BadHour("an hour is not told")
    return Weather.of_signs(warmed_signs(weather.signs(), hours))


def _costs(weather, prices):
    """For each hour from 0 on what a coat in it costs; hour 0 only gives the list plain indices."""
    if len(prices) != weather.hours:
        raise BadPrice("there is not one price for each hour")
    check_prices(prices)
    return [0] + [price if sign == DAMP else 0 for price, sign in zip(prices, weather.signs())]


def _rests(lacquer, costs):
    """For each hour from 0 on the least cost of the later coats of a warm row with a coat in it."""
    hours = len(costs) - 1
    rests = [0] * len(costs)
    for hour in range(hours - lacquer.b, 0, -1):
        later = range(hour + lacquer.a, hour + lacquer.b + 1)
        rests[hour] = min([costs[q] + rests[q] for q in later])
    return rests


def _is_at_most(label, most):
    return label is not None and label <= most
