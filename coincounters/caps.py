"""Caps: a greatest amount that coins may not exceed."""

from coincounters.checks import is_amount
from coincounters.errors import BadAmount, OverCap


class Cap:
    """A greatest amount of coins, in the attribute most."""

    def __init__(self, most):
        if not is_amount(most):
            raise BadAmount(most)
        self.most = most

    def room(self, coins):
        """Returns how many coins there may be in addition to these."""
        if not is_amount(coins):
            raise BadAmount(coins)
        if coins > self.most:
            raise OverCap(coins)
        return self.most - coins
