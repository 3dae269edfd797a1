"""Prices."""

from dampspells.base.errors import BadPrice

MOST_PRICE = 1000


def check_prices(prices):
    """Raises `BadPrice` if one of them is not a price."""
    if not all([0 <= price <= MOST_PRICE for price in prices]):
        raise BadPrice(f"a price is 0 to {MOST_PRICE}")
