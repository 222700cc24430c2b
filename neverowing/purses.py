"""The least purses with which the keeper never owes, and the least income that some purse bears."""

from neverowing.checks import MOST_ASKS, check_count, start_of
from neverowing.cycles import least_mean
from neverowing.errors import BadIncome, NoAsk
from neverowing.incomes import is_income, terms_of_income
from neverowing.rising import costs_with, prices_of, risen_often, turns_back
from neverowing.shares import Share
from neverowing.solving import least_purses, steps_of
from neverowing.worlds import come_to

MOST_INCOMES = 40


def grain(world, income):
    """The least number that makes whole numbers of all shares of the income."""
    return terms_of_income(world, income)[0]


def income_at(world, income, name):
    """What comes in at an ask of this name, in grains."""
    gains = terms_of_income(world, income)[1]
    if name not in world.names():
        raise NoAsk(name)
    return gains[name]


def purse(world, income, *, start=None):
    """The least purse of the start, None if no purse is enough."""
    costs = costs_with(world, income)
    begin = start_of(world, start)
    return least_purses(costs, turns_back(world))[0][begin]


def purses(world, income):
    """The list of the least purses of all standings."""
    return least_purses(costs_with(world, income), turns_back(world))[0]


def purse_for(world, income, asks, *, start=None):
    """The least purse with which the keeper does not owe within so many asks."""
    costs = costs_with(world, income)
    check_count(asks, 0, MOST_ASKS)
    begin = start_of(world, start)
    return risen_often(costs, turns_back(world), asks)[begin]


def mean(world, *, start=None):
    """The least share that some purse bears as the income of all asks."""
    begin = start_of(world, start)
    prices = prices_of(world)
    back = turns_back(world)
    # Where an income is too little, the foe's picks tell how much they wring out of the
    # keeper on each way round; no share below that needs to be tried.
    least = Share(0)
    numbers, picks = least_purses(prices, back)
    while numbers[begin] is None:
        least = least_mean(steps_from(begin, steps_of(prices, picks)))
        numbers, picks = least_purses(costs_with(world, least), back)
    return least


def steps_from(begin, steps):
    """The steps at the standings that are come to from the start, under new numbers."""
    goals = [[] if answers is None else [goal for goal, _ in answers] for answers in steps]
    reached = come_to([begin], goals)
    numbers = {standing: k for k, standing in enumerate(reached)}
    return [[(numbers[goal], price) for goal, price in steps[standing]] for standing in reached]


def ladder(world, incomes, *, start=None):
    """The list of the least purses of the start for these incomes."""
    if not isinstance(incomes, list) or len(incomes) > MOST_INCOMES:
        raise BadIncome(-1)
    for index, income in enumerate(incomes):
        if not is_income(world, income):
            raise BadIncome(index)
    begin = start_of(world, start)
    return [purses(world, income)[begin] for income in incomes]
