"""The rule, by which the work can be kept up in a sound climate."""

from dampspells.lead.good import good_hours
from dampspells.lead.loss import losses
from dampspells.lead.verdict import check_sound
from dampspells.sky.member import check_member


def rule_row(lacquer, climate, weather):
    """The hours of the coats that the rule lays."""
    check_sound(lacquer, climate)
    check_member(climate, weather)
    row = [1]
    for hour in good_hours(lacquer, climate, weather.lengths):
        if hour >= row[-1] + lacquer.a:
            row.append(hour)
    return row


def spare(lacquer, climate, weather):
    """For each coat of the rule row, how much earlier it is laid than it is sure."""
    row = rule_row(lacquer, climate, weather)
    late = losses(lacquer, climate, len(row) - 1)
    return [1 + n * lacquer.a + late[n] - hour for n, hour in enumerate(row)]
