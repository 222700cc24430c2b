"""Certificates of the keeper and of the foe, and their judges."""

from neverowing.checks import MOST_ASKS, check_count, goal_in, start_of
from neverowing.errors import BadCount, BadTable, NoAnswer
from neverowing.kinds import is_from_zero, is_index, is_integer
from neverowing.lows import lows_of, ranks_of
from neverowing.rising import costs_with, turns_back
from neverowing.solving import least_purses, steps_of

MOST_LEAST = 10 ** 4


def keeper_fault(world, income, purse, heights, table, *, start=None):
    """The first fault of a keeper's certificate, None if it shows that the purse is enough."""
    costs = costs_with(world, income)
    if not is_integer(purse):
        raise BadCount(purse)
    begin = start_of(world, start)
    if not isinstance(heights, dict) or not isinstance(table, dict):
        return ("form",)
    for standing in keeper_walk(world, table, begin):
        if not is_from_zero(heights.get(standing)):
            return ("lacks", standing)
        if standing == begin and heights[standing] > purse:
            return ("begin",)
        fault = keeper_fault_at(world, costs, heights, table, standing)
        if fault is not None:
            return fault
    return None


def keeper_walk(world, table, begin):
    """The standings of the walk of a keeper's certificate, in order."""
    walk = [begin]
    listed = {begin: True}
    at = 0
    while at < len(walk):
        for goal in keeper_goals(world, table, walk[at]):
            if goal not in listed:
                listed[goal] = True
                walk.append(goal)
        at += 1
    return walk


def keeper_goals(world, table, standing):
    """Where turns and the answers of the table lead from the standing, in order."""
    entries = [(answers, table.get((standing, name))) for name, answers in world.asks[standing]]
    return list(world.turns[standing]) + [entry for answers, entry in entries if goal_in(answers, entry)]


def keeper_fault_at(world, costs, heights, table, standing):
    """The first fault at a standing that has a height from 0 on."""
    height = heights[standing]
    for goal in world.turns[standing]:
        if is_integer(heights.get(goal)) and heights[goal] > height:
            return ("turn", standing, goal)
    for (name, _), answers in zip(world.asks[standing], costs[standing]):
        entry = table.get((standing, name))
        if not goal_in(answers, entry):
            return ("answer", standing, name)
        if is_integer(heights.get(entry)) and cost_to(answers, entry) + heights[entry] > height:
            return ("step", standing, name)
    return None


def costs_at(world, costs, ask):
    """The answers of an ask, a pair (standing, name), with their costs."""
    return costs[ask[0]][world.asked(ask[0]).index(ask[1])]


def cost_to(answers, goal):
    """The cost of the answer with this next standing."""
    return dict(answers)[goal]


def keeper_paper(world, income, *, start=None):
    """A keeper's certificate for the least purse, None if no purse is enough."""
    costs = costs_with(world, income)
    begin = start_of(world, start)
    numbers = least_purses(costs, turns_back(world))[0]
    if numbers[begin] is None:
        return None
    table = {}
    for standing, row in enumerate(world.asks):
        for (name, _), answers in zip(row, costs[standing]):
            known = [(cost + numbers[goal], goal) for goal, cost in answers if numbers[goal] is not None]
            if len(known) > 0:
                table[(standing, name)] = min(known)[1]
    walk = keeper_walk(world, table, begin)
    heights = {standing: numbers[standing] for standing in walk}
    return heights, {key: goal for key, goal in table.items() if key[0] in heights}


def foe_fault(world, income, least, lows, ranks, moves, *, start=None):
    """The first fault of a foe's certificate, None if it shows that less than least is too little."""
    costs = costs_with(world, income)
    if not is_integer(least):
        raise BadCount(least)
    begin = start_of(world, start)
    if not isinstance(lows, dict) or not isinstance(ranks, dict) or not isinstance(moves, dict):
        return ("form",)
    for standing in foe_walk(world, lows, moves, begin):
        low = lows.get(standing)
        if not is_integer(low):
            return ("lacks", standing)
        if standing == begin and low < least:
            return ("begin",)
        if low > 0:
            fault = foe_fault_at(world, costs, lows, ranks, moves, standing)
            if fault is not None:
                return fault
    return None


def foe_walk(world, lows, moves, begin):
    """The standings of the walk of a foe's certificate, in order."""
    walk = [begin]
    listed = {begin: True}
    at = 0
    while at < len(walk):
        for goal in foe_goals(world, lows, moves, walk[at]):
            if goal not in listed:
                listed[goal] = True
                walk.append(goal)
        at += 1
    return walk


def foe_goals(world, lows, moves, standing):
    """Where the answers to the move of the standing lead, in order; nowhere from a low of 0 or less."""
    low = lows.get(standing)
    if not is_integer(low) or low <= 0:
        return []
    ask = asked_by(world, moves, standing)
    return [] if ask is None else [goal for goal, _ in world.answers(ask[0], ask[1])]


def asked_by(world, moves, standing):
    """The move of a standing, None if it has no valid one."""
    move = moves.get(standing)
    if not isinstance(move, tuple) or len(move) != 2 or not is_index(move[0], world.size):
        return None
    if move[0] not in world.by_turns(standing) or move[1] not in world.asked(move[0]):
        return None
    return move


def foe_fault_at(world, costs, lows, ranks, moves, standing):
    """The first fault at a standing that has a low above 0."""
    if not is_from_zero(ranks.get(standing)):
        return ("rank", standing)
    ask = asked_by(world, moves, standing)
    if ask is None:
        return ("move", standing)
    for goal, cost in costs_at(world, costs, ask):
        if is_integer(lows.get(goal)):
            worth = cost + max(0, lows[goal])
            if worth < lows[standing]:
                return ("step", standing, goal)
            if worth == lows[standing] and lows[goal] > 0 and not ranks_fall(ranks, standing, goal):
                return ("step", standing, goal)
    return None


def ranks_fall(ranks, standing, goal):
    """True unless the rank of the goal is an integer that is not less than that of the standing."""
    return not is_integer(ranks.get(goal)) or ranks[goal] < ranks[standing]


def foe_paper(world, income, least, *, start=None):
    """A foe's certificate that each purse below least is too small, None if one is enough."""
    costs = costs_with(world, income)
    check_count(least, 0, MOST_LEAST)
    begin = start_of(world, start)
    numbers, picks = least_purses(costs, turns_back(world))
    if numbers[begin] is not None and numbers[begin] < least:
        return None
    steps = steps_of(costs, picks)
    lows = lows_of(numbers, steps, least)
    moves = {}
    for standing, pick in enumerate(picks):
        if pick is not None:
            moves[standing] = (pick[0], world.asked(pick[0])[pick[1]])
    return dict(enumerate(lows)), ranks_of(lows, steps), moves


def play(world, income, table, moves, asks, *, start=None):
    """What is asked, answered and changed if the table answers the moves."""
    costs = costs_with(world, income)
    for value in (table, moves):
        if not isinstance(value, dict):
            raise BadTable(value)
    check_count(asks, 0, MOST_ASKS)
    standing = start_of(world, start)
    told = []
    for _ in range(asks):
        ask = asked_by(world, moves, standing)
        if ask is None:
            return told
        entry = table.get(ask)
        answers = costs_at(world, costs, ask)
        if not goal_in(answers, entry):
            raise NoAnswer(entry)
        told.append((ask[0], ask[1], entry, -cost_to(answers, entry)))
        standing = entry
    return told
