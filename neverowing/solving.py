"""The least purses, found by bettering the picks of the foe.

The foe has a pick at each standing: to stop, or the index of an ask of a standing to
which it comes by turns. Against fixed picks the keeper takes the cheapest way to a
standing at which the foe stops; None stands for the cost where there is no such way.
The foe stops everywhere at first and then takes better picks, as long as there are any.
A pick is taken only where it is better at once, so the keeper finds no way round that
costs nothing or less, and the numbers rise to the least purses; it does not matter how
great the prices are, as it would for rising grain by grain.
"""

from heapq import heappop, heappush

from neverowing.rising import spread


def least_purses(costs, back):
    """The pair of the least purses of all standings and the foe's picks that show them."""
    numbers = [0 for _ in costs]
    picks = [None for _ in costs]
    order = list(range(len(costs)))
    better = better_picks(costs, back, numbers, order)
    while len(better) > 0:
        for standing, (need, pick) in better.items():
            numbers[standing] = need
            picks[standing] = pick
        numbers = numbers_against(steps_of(costs, picks), numbers)
        # To and fro, so that what rises along a row of standings needs few rounds.
        order = order[::-1]
        better = better_picks(costs, back, numbers, order)
    return numbers, picks


def better_picks(costs, back, numbers, order):
    """For each standing at which some pick costs more, the pair of what it costs and the pick."""
    asks = dearest_asks(costs, numbers, order)
    known = [number for number in numbers + [need for need, _ in asks] if number is not None]
    # Greater than all that is known, in the place of what has no end.
    never = 1 + max([0] + known)
    needs = [never if need is None else need for need, _ in asks]
    better = {}
    for standing, dearest in enumerate(spread(needs, back)):
        # Of equal ones its own, so that no two standings reckon with one another's rise.
        asked = standing if needs[standing] == needs[dearest] else dearest
        if numbers[standing] is not None and needs[asked] > numbers[standing]:
            need, at = asks[asked]
            better[standing] = (need, (asked, at))
    return better


def dearest_asks(costs, numbers, order):
    """The dearest ask of each standing; what is found counts for the standings behind it in the order."""
    risen = list(numbers)
    asks = [None for _ in costs]
    for standing in order:
        need, at = dearest_ask(costs[standing], risen)
        asks[standing] = (need, at)
        if need is None or (risen[standing] is not None and need > risen[standing]):
            risen[standing] = need
    return asks


def dearest_ask(row, numbers):
    """The pair of what the dearest ask costs, at least 0, None if too much, and its index."""
    most = 0
    dearest = None
    for at, answers in enumerate(row):
        need = need_if_any(answers, numbers)
        if need is None:
            return None, at
        if need > most:
            most = need
            dearest = at
    return most, dearest


def need_if_any(answers, numbers):
    """The least cost of an answer and of what comes behind it, None if no purse is enough."""
    return min([cost + numbers[goal] for goal, cost in answers if numbers[goal] is not None], default=None)


def steps_of(costs, picks):
    """For each standing the answers of the ask that is picked, None where the foe stops."""
    return [None if pick is None else costs[pick[0]][pick[1]] for pick in picks]


def numbers_against(steps, numbers):
    """What the keeper pays until the foe stops; the numbers told it for the picks before."""
    # No step is cheaper than the numbers told, so the ways are searched by what they cost more.
    into = slacks_into(steps, numbers)
    more = [None for _ in numbers]
    queue = [(0, standing) for standing, answers in enumerate(steps) if answers is None]
    while len(queue) > 0:
        slack, goal = heappop(queue)
        if more[goal] is None:
            more[goal] = slack
            for standing, cost in into[goal]:
                if more[standing] is None:
                    heappush(queue, (slack + cost, standing))
    return [None if more[standing] is None else number + more[standing] for standing, number in enumerate(numbers)]


def slacks_into(steps, numbers):
    """For each standing the pairs of one before it and how much the step costs more than was told."""
    into = [[] for _ in numbers]
    for standing, answers in enumerate(steps):
        if answers is not None:
            for goal, cost in answers:
                if numbers[goal] is not None:
                    into[goal].append((standing, cost + numbers[goal] - numbers[standing]))
    return into
