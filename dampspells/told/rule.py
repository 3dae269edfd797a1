"""The rule, by which the work can be kept up in a sound climate."""

from dampspells.lead.good import good_places
from dampspells.lead.loss import losses
from dampspells.lead.verdict import check_sound
from dampspells.sky.member import check_member


def rule_row(lacquer, climate, weather):
    """The hours of the coats that the rule lays."""
    check_sound(lacquer, climate)
    check_member(climate, weather)
    row = [1]
    for start, length in weather.runs():
        for place in _good_places(lacquer, climate, weather, start, length):
            hour = start + place - 1
            if hour >= row[-1] + lacquer.a:
                row.append(hour)
    return row


def spare(lacquer, climate, weather):
    """For each coat of the rule row, how much earlier it is laid than it is sure."""
    row = rule_row(lacquer, climate, weather)
    late = losses(lacquer, climate, len(row) - 1)
    return [1 + n * lacquer.a + late[n] - hour for n, hour in enumerate(row)]


def _good_places(lacquer, climate, weather, start, length):
    if start + length > weather.hours:
        # No spell follows the run with which the weather ends.
        return list(range(1, length + 1))
    return good_places(lacquer, climate, length)
