"""What comes in at the asks of a world, in grains."""

from math import lcm

from neverowing.errors import BadIncome
from neverowing.shares import Share


def is_share_from_zero(value):
    """True just for a share that is not below 0."""
    return isinstance(value, Share) and value.top >= 0


def is_income(world, income):
    """True if the value is an income of the world."""
    if not isinstance(income, dict):
        return is_share_from_zero(income)
    return all([is_share_from_zero(income.get(name)) for name in world.names()])


def shares_of(world, income):
    """The dict of the share of each name; raises BadIncome for what is no income."""
    if not is_income(world, income):
        raise BadIncome(income)
    if isinstance(income, dict):
        return {name: income[name] for name in world.names()}
    return {name: income for name in world.names()}


def terms_of_income(world, income):
    """The pair of the grain and the dict of what comes in at each name, in grains."""
    shares = shares_of(world, income)
    grain = 1
    for share in shares.values():
        grain = lcm(grain, share.bottom)
    return grain, {name: share.top * (grain // share.bottom) for name, share in shares.items()}
