"""The least mean price of a way round.

The steps of a graph are a list with one item for each place, the nonempty list of
pairs of the next place and the price.
"""

from neverowing.shares import Share


def least_mean(steps):
    """The least mean price of a cycle, a share; each place leads on to some place."""
    ways = [min([(price, goal) for goal, price in answers])[1] for answers in steps]
    cycle = cycle_of(ways)
    while cycle is not None:
        mean = mean_of(steps, cycle)
        cycle = cycle_below(steps, mean)
    return mean


def mean_of(steps, cycle):
    """The mean price of the steps of a cycle, a list of places."""
    total = 0
    for place, goal in zip(cycle, cycle[1:] + cycle[:1]):
        total += dict(steps[place])[goal]
    return Share(total, len(cycle))


def cycle_below(steps, mean):
    """A cycle with a mean price below this one, None if there is none."""
    costs = [[(goal, price * mean.bottom - mean.top) for goal, price in answers] for answers in steps]
    lows = [0 for _ in steps]
    ways = [None for _ in steps]
    # A way is taken only where it is less than what was known, so the ways close to a
    # cycle just if the sum of its costs is below 0.
    while True:
        again = False
        for place, answers in enumerate(costs):
            low, goal = min([(cost + lows[goal], goal) for goal, cost in answers])
            if low < lows[place]:
                lows[place] = low
                ways[place] = goal
                again = True
        cycle = cycle_of(ways)
        if cycle is not None or not again:
            return cycle


def cycle_of(ways):
    """A cycle of places that lead to one another; None stands for a place that leads nowhere."""
    found_from = [None for _ in ways]
    for start in range(len(ways)):
        place = start
        while place is not None and found_from[place] is None:
            found_from[place] = start
            place = ways[place]
        if place is not None and found_from[place] == start:
            return cycle_at(ways, place)
    return None


def cycle_at(ways, place):
    """The places of the cycle on which this place lies."""
    cycle = [place]
    while ways[cycle[-1]] != place:
        cycle.append(ways[cycle[-1]])
    return cycle
