"""Diaries: what was asked and paid in an unknown run of a world."""

from neverowing.checks import start_of
from neverowing.errors import BadCount, BadDiary, BadName
from neverowing.incomes import terms_of_income
from neverowing.kinds import is_from_zero, is_name

MOST_ITEMS = 40


def check_diary(diary):
    """Raises BadDiary unless the value is a diary."""
    if not isinstance(diary, list) or len(diary) > MOST_ITEMS:
        raise BadDiary(-1)
    for index, item in enumerate(diary):
        if not is_item(item):
            raise BadDiary(index)


def is_item(item):
    """True for a pair of a name or None and a price or None."""
    if not isinstance(item, tuple) or len(item) != 2:
        return False
    name, price = item
    return (name is None or is_name(name)) and (price is None or is_from_zero(price))


def can_be(world, diary, *, start=None):
    """True if some run fits."""
    return len(ends_that_fit(world, diary, start=start)) > 0


def count_fit(world, diary, *, start=None):
    """The number of runs that fit."""
    check_diary(diary)
    begin = start_of(world, start)
    counts = carried(world, diary, begin, 1, lambda count, step: count, lambda one, two: one + two)
    return sum(list(counts.values()))


def ends_that_fit(world, diary, *, start=None):
    """The ascending list of the last next standings of the runs that fit."""
    check_diary(diary)
    return ends_of(world, diary, start_of(world, start))


def paid(world, diary, *, start=None):
    """The pair of the least and the greatest total price of a run that fits, None if none fits."""
    check_diary(diary)
    begin = start_of(world, start)
    bounds = carried(world, diary, begin, (0, 0), dearer, wider)
    if len(bounds) == 0:
        return None
    return min([least for least, _ in bounds.values()]), max([most for _, most in bounds.values()])


def dearer(bounds, step):
    """The least and the greatest total price with the price of the step."""
    return bounds[0] + step[3], bounds[1] + step[3]


def wider(one, two):
    """The least and the greatest of two pairs of total prices."""
    return min(one[0], two[0]), max(one[1], two[1])


def greatest_purse(world, diary, income, purse, *, start=None):
    """The greatest purse at the end of a run that fits and in which the keeper never owes, None if there is none."""
    check_diary(diary)
    grain, gains = terms_of_income(world, income)
    if not is_from_zero(purse):
        raise BadCount(purse)
    begin = start_of(world, start)

    def change(rest, step):
        left = rest + gains[step[1]] - grain * step[3]
        return left if left >= 0 else None

    # Whoever has more at a standing can do there all that others can.
    rests = carried(world, diary, begin, purse, change, lambda one, two: max(one, two))
    return max(list(rests.values()), default=None)


def foretold(world, diary, name, *, start=None):
    """Whether an ask of this name may come behind some run that fits, and whether behind each one."""
    check_diary(diary)
    if not is_name(name):
        raise BadName(name)
    begin = start_of(world, start)
    flags = [may_be_asked(world, end, name) for end in ends_of(world, diary, begin)]
    return any(flags), all(flags)


def fitting_run(world, diary, *, start=None):
    """A run that fits, None if there is none."""
    check_diary(diary)
    begin = start_of(world, start)
    runs = carried(world, diary, begin, [], lambda run, step: run + [step[:3]], lambda one, two: one)
    for run in runs.values():
        return run
    return None


def ends_of(world, diary, begin):
    """The ascending list of where the runs that fit end."""
    return sorted(list(carried(world, diary, begin, True, lambda fits, step: fits, lambda one, two: one)))


def may_be_asked(world, standing, name):
    """True if turns, or none, and an ask of this name may follow at the standing."""
    return any([name in world.asked(asked) for asked in world.by_turns(standing)])


def carried(world, diary, begin, value, change, join):
    """The dict of the ends of all runs that fit, and of what becomes of a value on the way there.

    change tells the value behind a step, a tuple (standing, name, next, price), or None if
    the step can't be taken; join makes one value of two that meet at a standing.
    """
    near = [world.by_turns(standing) for standing in range(world.size)]
    values = {begin: value}
    for name, price in diary:
        steps = steps_that_fit(world, name, price)
        values = behind_steps(steps, behind_turns(near, values, join), change, join)
    return values


def steps_that_fit(world, wanted, cost):
    """The list of the steps that have this name and this price, where they are not None."""
    return [(standing, name, goal, price) for standing, row in enumerate(world.asks)
            for name, answers in row if wanted is None or name == wanted
            for goal, price in answers if cost is None or price == cost]


def behind_turns(near, values, join):
    """The dict of the standings that may be asked, and of the values there."""
    asked = {}
    for standing, value in values.items():
        for goal in near[standing]:
            asked[goal] = join(asked[goal], value) if goal in asked else value
    return asked


def behind_steps(steps, asked, change, join):
    """The dict of the next standings, and of the values there."""
    values = {}
    for step in steps:
        if step[0] in asked:
            value = change(asked[step[0]], step)
            if value is not None:
                values[step[2]] = join(values[step[2]], value) if step[2] in values else value
    return values
