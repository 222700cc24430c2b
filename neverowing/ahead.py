"""Asks that are known ahead, and plans how to answer them."""

from neverowing.checks import goal_in, start_of
from neverowing.errors import BadRow
from neverowing.incomes import terms_of_income
from neverowing.kinds import is_name

MOST_NAMES = 60


def check_row(row):
    """Raises BadRow unless the value is a row of names."""
    if not isinstance(row, list) or len(row) > MOST_NAMES:
        raise BadRow(-1)
    for index, name in enumerate(row):
        if not is_name(name):
            raise BadRow(index)


def plan_fault(world, row, plan, *, start=None):
    """The first fault of a plan for the row, None if there is none."""
    check_row(row)
    standing = start_of(world, start)
    if not isinstance(plan, list) or len(plan) != len(row):
        return ("form",)
    for index, name in enumerate(row):
        goal = plan[index]
        answers = dict(world.asks[standing]).get(name)
        if answers is None and goal is not None:
            return ("step", index)
        if answers is not None:
            if not goal_in(answers, goal):
                return ("step", index)
            standing = goal
    return None


def least_total(world, row, *, start=None):
    """The pair of the least number of asks that fall and the least total price then."""
    check_row(row)
    begin = start_of(world, start)
    return outlooks(world, row, total_with)[0][begin][:2]


def best_plan(world, row, *, start=None):
    """A plan in which least asks fall, with the least total price."""
    check_row(row)
    begin = start_of(world, start)
    return plan_along(outlooks(world, row, total_with), begin)


def least_purse(world, row, income, *, start=None):
    """The least purse with which some plan in which least asks fall never owes."""
    check_row(row)
    change = purse_change(world, income)
    begin = start_of(world, start)
    return outlooks(world, row, change)[0][begin][1]


def frugal_plan(world, row, income, *, start=None):
    """A plan in which least asks fall that never owes with the least purse."""
    check_row(row)
    change = purse_change(world, income)
    begin = start_of(world, start)
    return plan_along(outlooks(world, row, change), begin)


def total_with(name, price, total):
    """The total price of an ask and of those behind it."""
    return price + total


def purse_change(world, income):
    """The function that tells the purse for an ask and those behind it."""
    grain, gains = terms_of_income(world, income)
    return lambda name, price, purse: max(0, grain * price - gains[name] + purse)


def outlooks(world, row, change):
    """For each place in the row and the end of it the list of the outlooks of all standings.

    An outlook is a triple: how many asks fall from there on, at least; what the change makes of
    their prices then, at least; the next standing, None where the ask falls or the row has ended.
    """
    asks = [dict(told) for told in world.asks]
    found = [[(0, 0, None) for _ in asks]]
    for name in reversed(row):
        behind = found[-1]
        found.append([outlook(asked.get(name), name, behind[standing], behind, change)
                      for standing, asked in enumerate(asks)])
    return found[::-1]


def outlook(answers, name, stay, behind, change):
    """The outlook at an ask; stay is the one of the same standing behind it."""
    if answers is None:
        return stay[0] + 1, stay[1], None
    return min([(behind[goal][0], change(name, price, behind[goal][1]), goal) for goal, price in answers])


def plan_along(found, begin):
    """The plan that the outlooks tell."""
    plan = []
    standing = begin
    for row in found[:-1]:
        goal = row[standing][2]
        plan.append(goal)
        if goal is not None:
            standing = goal
    return plan
