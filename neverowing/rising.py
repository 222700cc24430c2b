"""Rising: what the next asks may cost, from what the asks behind them may cost.

The costs of a world are a list with one item for each standing, the list of its
asks; each ask is the list of its answers, a pair of the next standing and the cost.
"""

from neverowing.incomes import terms_of_income


def costs_of(world, grain, gains):
    """The costs of the world in grains, less what comes in at each name."""
    return [[[(goal, grain * price - gains[name]) for goal, price in answers] for name, answers in row]
            for row in world.asks]


def costs_with(world, income):
    """The costs of the world with this income; raises BadIncome for what is no income."""
    grain, gains = terms_of_income(world, income)
    return costs_of(world, grain, gains)


def prices_of(world):
    """The costs of the world if nothing comes in."""
    return costs_of(world, 1, {name: 0 for name in world.names()})


def turns_back(world):
    """The list of the standings from which a turn leads to each standing."""
    back = [[] for _ in range(world.size)]
    for standing, row in enumerate(world.turns):
        for goal in row:
            back[goal].append(standing)
    return back


def spread(numbers, back):
    """For each standing the one with the greatest number among those that it comes to by turns."""
    chosen = [None for _ in numbers]
    for top in sorted(range(len(numbers)), key=lambda standing: -numbers[standing]):
        waiting = [top]
        while len(waiting) > 0:
            standing = waiting.pop()
            if chosen[standing] is None:
                chosen[standing] = top
                waiting.extend(back[standing])
    return chosen


def need_of(answers, numbers):
    """The least cost of an answer and of what comes behind it."""
    return min([cost + numbers[goal] for goal, cost in answers])


def risen(costs, back, numbers):
    """The numbers for one ask more: the foe picks the greatest ask, the keeper the least answer."""
    # Nothing falls below 0, so 0 may stand for a standing that has no ask itself.
    needs = [max([0] + [need_of(answers, numbers) for answers in row]) for row in costs]
    return [needs[standing] for standing in spread(needs, back)]


def risen_often(costs, back, asks):
    """The numbers of all standings for so many asks."""
    numbers = [0 for _ in costs]
    for _ in range(asks):
        numbers = risen(costs, back, numbers)
    return numbers
