"""What so many asks cost in all, if both sides know how many there will be."""

from neverowing.checks import MOST_ASKS, check_count, start_of
from neverowing.errors import TooMany
from neverowing.rising import need_of, prices_of, risen, risen_often, turns_back

FARTHEST = 10 ** 30


def worth(world, asks, *, start=None):
    """The total price of so many asks."""
    check_count(asks, 0, FARTHEST)
    begin = start_of(world, start)
    if asks > MOST_ASKS:
        return far_worth(world, asks, begin)
    return worths_behind(world, asks)[begin]


def worths(world, asks, *, start=None):
    """The list of the total prices of no ask, one ask and so on to so many asks."""
    check_count(asks, 0, MOST_ASKS)
    begin = start_of(world, start)
    costs = prices_of(world)
    back = turns_back(world)
    row = worths_behind(world, 0)
    totals = [row[begin]]
    for _ in range(asks):
        row = risen(costs, back, row)
        totals.append(row[begin])
    return totals


def best_ask(world, asks, *, start=None):
    """The pair of a standing and the name of an ask that makes so many asks cost most."""
    check_count(asks, 1, MOST_ASKS)
    begin = start_of(world, start)
    row = worths_behind(world, asks - 1)
    best = None
    most = -1
    for standing in world.by_turns(begin):
        for name, answers in world.asks[standing]:
            need = need_of(answers, row)
            if need > most:
                most = need
                best = (standing, name)
    return best


def best_answer(world, asks, standing, name):
    """The next standing that makes so many asks, this one among them, cost least."""
    check_count(asks, 1, MOST_ASKS)
    answers = world.answers(standing, name)
    row = worths_behind(world, asks - 1)
    return min([(price + row[goal], goal) for goal, price in answers])[1]


def worths_behind(world, asks):
    """The total prices of so many asks, from each standing."""
    return risen_often(prices_of(world), turns_back(world), asks)


def far_worth(world, asks, begin):
    """The total price of more asks than are gone through one by one."""
    costs = prices_of(world)
    back = turns_back(world)
    reach = world.reach(begin)
    row = worths_behind(world, 0)
    totals = []
    seen = {}
    for many in range(MOST_ASKS + 1):
        shape = tuple([row[standing] - row[begin] for standing in reach])
        if shape in seen:
            # From here on the rows come back, each time by the same sum higher.
            first = seen[shape]
            rounds, rest = divmod(asks - first, many - first)
            return totals[first + rest] + rounds * (row[begin] - totals[first])
        seen[shape] = many
        totals.append(row[begin])
        row = risen(costs, back, row)
    raise TooMany(MOST_ASKS)
