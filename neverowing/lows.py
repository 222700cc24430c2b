"""The lows and the ranks that show what the foe's picks wring out of the keeper.

The steps are a list with one item for each standing, the answers of the ask that the foe
picks there, or None where it stops; the numbers are what the keeper pays until then.
"""


def lows_of(numbers, steps, least):
    """The low of each standing, at least this number where no purse is enough."""
    shifts = shifts_of(numbers, steps)
    known = [number for number in numbers if number is not None]
    costs = [abs(cost) for answers in steps if answers is not None for _, cost in answers]
    # High enough that a step from a standing with a least purse to one without is too dear.
    high = least + 1 + max([0] + known) + max([0] + costs) - min(shifts)
    return [high + shifts[standing] if number is None else number for standing, number in enumerate(numbers)]


def shifts_of(numbers, steps):
    """The least cost of some steps, or none, from each standing where no purse is enough."""
    shifts = [0 for _ in numbers]
    endless = [standing for standing, number in enumerate(numbers) if number is None]
    again = True
    # No way round costs 0 or less there, so this comes to an end.
    while again:
        again = False
        for standing in endless:
            shift = min([cost + shifts[goal] for goal, cost in steps[standing]])
            if shift < shifts[standing]:
                shifts[standing] = shift
                again = True
    return shifts


def ranks_of(lows, steps):
    """The dict of the ranks of all standings with a low above 0; they fall at each step that is equal."""
    before = [[] for _ in lows]
    ahead = {}
    for standing, answers in enumerate(steps):
        if answers is not None:
            equal = [goal for goal, cost in answers if lows[goal] > 0 and cost + lows[goal] == lows[standing]]
            ahead[standing] = len(equal)
            for goal in equal:
                before[goal].append(standing)
    ready = [standing for standing, many in ahead.items() if many == 0]
    ranks = {}
    while len(ready) > 0:
        goal = ready.pop()
        ranks[goal] = len(ranks)
        for standing in before[goal]:
            ahead[standing] -= 1
            if ahead[standing] == 0:
                ready.append(standing)
    return ranks
