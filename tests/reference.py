"""What the document says of worths, purses and certificates, word by word and slowly."""

from math import lcm

from neverowing.shares import Share


def shares_by_name(world, income):
    names = {name for row in world.asks for name, _ in row}
    return {name: income if isinstance(income, Share) else income[name] for name in names}


def grains(world, income):
    """The grain b and the dict of t(n)."""
    shares = shares_by_name(world, income)
    grain = lcm(*(share.bottom for share in shares.values()))
    return grain, {name: share.top * grain // share.bottom for name, share in shares.items()}


def closures(world):
    return [world.by_turns(standing) for standing in range(world.size)]


def worth_rows(world, most):
    """V(0, .) to V(most, .), one row for each number of asks."""
    near = closures(world)
    rows = [[0] * world.size]
    for _ in range(most):
        last = rows[-1]
        own = [[min(price + last[goal] for goal, price in answers) for _, answers in row] for row in world.asks]
        rows.append([max(need for there in near[standing] for need in own[there]) for standing in range(world.size)])
    return rows


def risings(world, income):
    """The rows of the numbers of [18], without end; None stands for a number that is too high."""
    grain, gains = grains(world, income)
    near = closures(world)
    bound = grain * sum(max((price for _, answers in row for _, price in answers), default=0) for row in world.asks)
    numbers = [0] * world.size
    while True:
        yield numbers
        own = [[need(answers, grain, gains[name], numbers) for name, answers in row] for row in world.asks]
        rows = [[number for there in near[standing] for number in own[there]] for standing in range(world.size)]
        numbers = [None if None in row or max(row) > bound else max(row) for row in rows]


def need(answers, grain, gain, numbers):
    return min((max(0, grain * price - gain + numbers[goal]) for goal, price in answers
                if numbers[goal] is not None), default=None)


def least_purses(world, income):
    before = None
    for numbers in risings(world, income):
        if numbers == before:
            return numbers
        before = numbers


def plain_purse_for(world, income, asks, standing):
    """The number after so many risings, for bounds that are never reached."""
    grain, gains = grains(world, income)
    near = closures(world)
    numbers = [0] * world.size
    for _ in range(asks):
        own = [[need(answers, grain, gains[name], numbers) for name, answers in row] for row in world.asks]
        numbers = [max(number for there in near[s] for number in own[there]) for s in range(world.size)]
    return numbers[standing]


def is_number(value, least=None):
    return type(value) is int and (least is None or value >= least)


def keeper_faults(world, income, purse, heights, table, start):
    """All faults of [21], in order; an empty list if there is none."""
    if type(heights) is not dict or type(table) is not dict:
        return [("form",)]
    grain, gains = grains(world, income)
    found = []
    walk = [start]
    for standing in walk:
        turns = world.turns[standing]
        steps = [(name, dict(answers), table.get((standing, name))) for name, answers in world.asks[standing]]
        right = [(name, prices, goal) for name, prices, goal in steps if is_number(goal) and goal in prices]
        for goal in list(turns) + [goal for _, _, goal in right]:
            if goal not in walk:
                walk.append(goal)
        if not is_number(heights.get(standing), 0):
            found.append(("lacks", standing))
            continue
        height = heights[standing]
        if standing == start and height > purse:
            found.append(("begin",))
        found += [("turn", standing, goal) for goal in turns
                  if is_number(heights.get(goal)) and heights[goal] > height]
        for step in steps:
            name, prices, goal = step
            if step not in right:
                found.append(("answer", standing, name))
            elif is_number(heights.get(goal)) and grain * prices[goal] - gains[name] + heights[goal] > height:
                found.append(("step", standing, name))
    return found


def right_move(world, moves, standing):
    move = moves.get(standing)
    if type(move) is not tuple or len(move) != 2 or not is_number(move[0], 0) or type(move[1]) is not str:
        return None
    if move[0] not in world.by_turns(standing) or move[1] not in world.asked(move[0]):
        return None
    return move


def foe_faults(world, income, least, lows, ranks, moves, start):
    """All faults of [23], in order; an empty list if there is none."""
    if {type(lows), type(ranks), type(moves)} != {dict}:
        return [("form",)]
    grain, gains = grains(world, income)
    found = []
    walk = [start]
    for standing in walk:
        low = lows.get(standing)
        if not is_number(low):
            found.append(("lacks", standing))
            continue
        if standing == start and low < least:
            found.append(("begin",))
        if low <= 0:
            continue
        move = right_move(world, moves, standing)
        answers = [] if move is None else world.answers(move[0], move[1])
        walk += [goal for goal, _ in answers if goal not in walk]
        if not is_number(ranks.get(standing), 0):
            found.append(("rank", standing))
            continue
        if move is None:
            found.append(("move", standing))
        for goal, price in answers:
            if is_number(lows.get(goal)):
                value = grain * price - gains[move[1]] + max(0, lows[goal])
                falls = not is_number(ranks.get(goal)) or ranks[goal] < ranks[standing]
                if value < low or value == low and lows[goal] > 0 and not falls:
                    found.append(("step", standing, goal))
    return found
