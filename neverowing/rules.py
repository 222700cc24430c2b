"""Rules that answer each ask by the standing and the name alone."""

from neverowing.checks import check_count, goal_in, start_of
from neverowing.errors import BadRule, BadTable
from neverowing.incomes import is_income, terms_of_income
from neverowing.kinds import is_integer
from neverowing.purses import purses
from neverowing.rising import costs_with
from neverowing.worlds import World

MOST_PURSE = 10 ** 6


class Rule:
    """A world with one choice for each ask of each standing."""

    def __init__(self, world, choice):
        self.world = world
        self._table = checked_table(world, choice) if isinstance(choice, dict) else chosen_table(world, choice)

    def table(self):
        """A new dict of the next standings of all asks."""
        return {key: self._table[key] for key in self._table}

    def __call__(self, standing, name):
        # It raises the errors of a wrong standing and a wrong name.
        self.world.answers(standing, name)
        return self._table[(standing, name)]

    def __eq__(self, other):
        return isinstance(other, Rule) and self.world == other.world and self._table == other._table


def checked_table(world, choice):
    """The entries of a dict for all asks; raises BadRule for one that is lacking or wrong."""
    table = {}
    for standing, row in enumerate(world.asks):
        for name, answers in row:
            entry = choice.get((standing, name))
            if not goal_in(answers, entry):
                raise BadRule((standing, name))
            table[(standing, name)] = entry
    return table


def chosen_table(world, choice):
    """The next standings that a choice by words prefers."""
    weight, numbers = preference(world, choice)
    table = {}
    for standing, row in enumerate(world.asks):
        for name, answers in row:
            known = [(weight * price + numbers[goal], goal) for goal, price in answers if numbers[goal] is not None]
            table[(standing, name)] = min(known, default=(0, answers[0][0]))[1]
    return table


def preference(world, choice):
    """The pair of what the price weighs in a choice and of what each next standing adds, None for never."""
    zeros = [0 for _ in range(world.size)]
    if choice == "first":
        return 0, zeros
    if choice == "cheapest":
        return 1, zeros
    if not isinstance(choice, tuple) or len(choice) != 2 or choice[0] != "height" or not is_income(world, choice[1]):
        raise BadRule(None)
    return terms_of_income(world, choice[1])[0], purses(world, choice[1])


def rule_world(rule):
    """The world in which each ask has the rule's answer alone."""
    world = rule.world
    table = rule.table()
    asks = []
    for standing, row in enumerate(world.asks):
        goals = [(name, table[(standing, name)]) for name, _ in row]
        asks.append(tuple([(name, ((goal, world.price(standing, name, goal)),)) for name, goal in goals]))
    return World(world.turns, tuple(asks), start=world.start)


def breaking(rule, income, purse, *, start=None):
    """A shortest list of asks behind which the keeper owes by the rule, None if it never does."""
    world = rule_world(rule)
    costs = costs_with(world, income)
    check_count(purse, 0, MOST_PURSE)
    begin = start_of(world, start)
    return first_owing([dearest_ways(world, costs, standing) for standing in range(world.size)], begin, purse)


def dearest_ways(world, costs, standing):
    """For each next standing the dearest ask that leads there: triples of it, the cost and the ask."""
    ways = {}
    for asked in world.by_turns(standing):
        for (name, _), answers in zip(world.asks[asked], costs[asked]):
            goal, cost = answers[0]
            if goal not in ways or cost > ways[goal][0]:
                ways[goal] = (cost, (asked, name))
    return [(goal, cost, ask) for goal, (cost, ask) in ways.items()]


def first_owing(ways, begin, purse):
    """The asks of a shortest way that costs more than the purse, None if there is none."""
    most = [None for _ in ways]
    most[begin] = 0
    trail = []
    layer = {begin: (0, -1)}
    while len(layer) > 0:
        found = {}
        for standing, (total, at) in layer.items():
            for goal, cost, ask in ways[standing]:
                # What comes later and costs no more breaks nothing earlier.
                if most[goal] is None or total + cost > most[goal]:
                    most[goal] = total + cost
                    found[goal] = (total + cost, len(trail))
                    trail.append((at, ask))
                    if total + cost > purse:
                        return asks_of(trail)
        layer = found
    return None


def asks_of(trail):
    """The asks that led to the last item of the trail, in order."""
    asks = []
    at = len(trail) - 1
    while at >= 0:
        at, ask = trail[at]
        asks.append(ask)
    return asks[::-1]


def follows(rule, table):
    """True if the rule's choice is the table's entry wherever the table has one."""
    if not isinstance(table, dict):
        raise BadTable(table)
    choices = rule.table()
    return all([is_integer(table[key]) and table[key] == choices[key] for key in choices if key in table])
