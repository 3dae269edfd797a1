"""Sights: how many hours ahead somebody sees."""

from dampspells.base.errors import BadNumber


def check_sight(sight):
    """Raises `BadNumber` if the sight is negative."""
    if sight < 0:
        raise BadNumber("a sight is not negative")
