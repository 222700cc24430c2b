"""What the tests of the services share."""

import random

from neverowing.papers import foe_fault, foe_paper, keeper_fault, keeper_paper
from neverowing.purses import mean, purse, purses
from neverowing.shares import Share
from neverowing.worths import best_answer, best_ask, worth, worths
from tests.helpers import error_of, odd_values, picture
from tests.reference import least_purses, worth_rows


def check_what(test, call, args, wanted):
    """The call raises this error, and `what` is the very value."""
    told = error_of(call, *args)
    test.assertIsNotNone(told, args)
    test.assertIs(told[0], wanted[0], args)
    test.assertIs(told[1], wanted[1], args)


def check_service_world(test, world, lots, begin, turns, asks):
    """The world has these turns and asks.

    turns and asks are functions of a tuple: the tuples to which turns lead, and a dict from names
    to dicts of the prices of the next tuples.
    """
    test.assertEqual([world.size, world.start], [len(lots), lots.index(begin)])
    for number, lot in enumerate(lots):
        test.assertEqual(world.turns[number], tuple(sorted({lots.index(goal) for goal in turns(lot)})))
        wanted = asks(lot)
        test.assertEqual(world.asked(number), sorted(wanted))
        for name, prices in wanted.items():
            test.assertEqual(world.answers(number, name),
                             sorted((lots.index(goal), price) for goal, price in prices.items()))


def check_world_functions(test, world, seed=0):
    """The functions of worths, purses and papers, on the world of a service."""
    rows = worth_rows(world, 6)
    test.assertEqual(worths(world, 6), [row[world.start] for row in rows])
    far = world.size - 1
    test.assertEqual(worth(world, 5, start=far), rows[5][far])
    check_best(test, world, rows)
    least = mean(world)
    test.assertIsNotNone(purse(world, least))
    if least.top > 0:
        test.assertIsNone(purse(world, Share(least.top * 100 - 1, least.bottom * 100)))
    dice = random.Random(seed)
    dear = {name: Share(dice.randint(0, 6), 2) for name in world.names()}
    for income in (least, least + Share(1, 2), dear):
        numbers = purses(world, income)
        test.assertEqual(numbers, least_purses(world, income))
        for start in {None, 0, far}:
            check_papers(test, world, income, numbers[world.start if start is None else start], start)


def check_best(test, world, rows):
    """best_ask and best_answer take what the numbers V tell."""
    near, name = best_ask(world, 3)
    test.assertIn(near, world.by_turns(world.start))
    goal = best_answer(world, 3, near, name)
    sums = {there: price + rows[2][there] for there, price in world.answers(near, name)}
    test.assertEqual([sums[goal], min(sums.values())], [rows[3][world.start]] * 2)


def check_papers(test, world, income, number, start):
    """The certificates for the least purse of the start, None for no purse."""
    paper = keeper_paper(world, income, start=start)
    least = 20 if number is None else number
    lows, ranks, moves = foe_paper(world, income, least, start=start)
    test.assertIsNone(foe_fault(world, income, least, lows, ranks, moves, start=start))
    if number is None:
        test.assertIsNone(paper)
        return
    test.assertIsNone(keeper_fault(world, income, number, paper[0], paper[1], start=start))
    test.assertIsNone(foe_paper(world, income, number + 1, start=start))
    if number > 0:
        test.assertEqual(keeper_fault(world, income, number - 1, paper[0], paper[1], start=start), ("begin",))


def spoiled(value):
    """Values that are nearly this nested tuple: a flag, a list or another number in one place."""
    if not isinstance(value, tuple):
        return [item for item in (bool(value), None, str(value), [value], (value,), Share(value), -7, 10 ** 30)]
    rows = [list(value), value + (None,), value + (value,), {0: value}, (value,)]
    for at, item in enumerate(value):
        rows += [value[:at] + (other,) + value[at + 1:] for other in spoiled(item)]
        rows.append(value[:at] + value[at + 1:])
    return rows


def wrong_values(right, some):
    """Odd values and such that are nearly one of some right ones; none of them is right, also not in its kinds."""
    pictures = [picture(value) for value in right]
    near = [other for value in some for other in spoiled(value)]
    return [value for value in odd_values() + near if picture(value) not in pictures]
