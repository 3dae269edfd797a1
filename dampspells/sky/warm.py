"""Hours that are made dry."""

from dampspells.sky.weather import DRY


def warmed_signs(signs, hours):
    """The signs, but dry ones for these hours."""
    return "".join([DRY if hour in hours else sign for hour, sign in enumerate(signs, start=1)])
