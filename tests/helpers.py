"""What several tests use."""

import copy
import random

from neverowing import errors
from neverowing.calls import CallWorld
from neverowing.helpers import HelperWorld
from neverowing.house import House
from neverowing.labels import LabelWorld
from neverowing.rules import Rule
from neverowing.seats import SeatWorld
from neverowing.shares import Share
from neverowing.wholes import Step
from neverowing.worlds import World

# The example of [12].
EXAMPLE_TURNS = ((), (0,))
EXAMPLE_ASKS = ((("go", ((0, 2), (1, 0))),), (("go", ((0, 3),)),))


def example():
    return World(EXAMPLE_TURNS, EXAMPLE_ASKS)


def nested(kind, depth=25):
    """A value of lists, tuples or dicts, nested this deep."""
    value = 0
    for _ in range(depth):
        value = {0: value} if kind is dict else kind([value])
    return value


def odd_values():
    """Values of all kinds that callers may pass, each one new."""
    return [
        None, True, False, -1, 0, 1, 2, 400, 10 ** 30, -10 ** 30,
        "", "go", "Go", "g0", "g o", "a\nb", "a" * 13, "~ {x}",
        (), (0,), (True,), (0, 1), (1, 0), (False, True), (True, 0), (0, 0), ("go",), ("go", 0),
        ((0, 2),), ((), ()), (None, None), ([],), ({},), (Share(1),),
        [], [0], [0, 1], ["go"], [[]], [()],
        {}, {0: 1}, {"go": 0}, {(0, "go"): 1},
        nested(list), nested(tuple), nested(dict),
        Share(1), Share(0), Share(1, 2), example(), errors.OweError(), errors.NoStanding(0), errors.BadDiary([0]),
        House(example(), Share(2), 0), Rule(example().scaled(7), "first"), Step([example(), example()]), LabelWorld(1, 1),
        CallWorld((1,), (1,), 1), SeatWorld(1, ((0,),)), HelperWorld((((),),), 1),
    ]


def is_plain_integer(value):
    return type(value) is int


def is_right_name(value):
    """Written another way than in the package."""
    return type(value) is str and 1 <= len(value) <= 12 and value.isascii() and value.isalpha() and value.islower()


def error_of(call, *args, **named):
    """The pair of the class of the error that the call raises and its `what`."""
    try:
        call(*args, **named)
    except errors.OweError as error:
        return type(error), error.what
    return None


def random_world(seed):
    """A world of 1 to 7 standings; no chance but the seed."""
    dice = random.Random(seed)
    size = dice.randint(1, 7)
    while True:
        turns = tuple(
            tuple(t for t in range(size) if t != s and dice.random() < 0.25) for s in range(size))
        asks = tuple(random_asks(dice, size) for _ in range(size))
        try:
            return World(turns, asks, start=dice.randrange(size))
        except errors.BadWorld:
            continue


def random_asks(dice, size):
    names = [name for name in ("a", "b", "go", "stay") if dice.random() < 0.4]
    return tuple((name, random_answers(dice, size)) for name in names)


def random_answers(dice, size):
    goals = sorted(dice.sample(range(size), dice.randint(1, size)))
    return tuple((goal, dice.randint(0, 5)) for goal in goals)


def is_count(least, most):
    return lambda value: is_plain_integer(value) and least <= value <= most


def is_start(world):
    return lambda value: value is None or is_plain_integer(value) and 0 <= value < world.size


def is_dict(value):
    return isinstance(value, dict)


def is_right_share(value):
    return isinstance(value, Share) and value.top >= 0


def is_right_income(world):
    names = {name for row in world.asks for name, _ in row}
    return lambda value: is_right_share(value) or is_dict(value) and all(
        name in value and is_right_share(value[name]) for name in names)


def random_share(dice):
    return Share(dice.randint(0, 12), dice.randint(1, 4))


def random_income(dice, world):
    """One share, or a dict with further keys."""
    if dice.random() < 0.5:
        return random_share(dice)
    return dict({name: random_share(dice) for name in world.names()}, other=None)


def check_errors(test, call, right, places, seed=0):
    """The errors of a call in the order of the places.

    right holds a right value for each argument; a place is the name of an argument, a
    function that tells which values are right there, and the class of the error.
    """
    dice = random.Random(seed)
    trials = [{argument: k} for argument, _, _ in places for k in range(len(odd_values()))]
    for _ in range(150):
        chosen = dice.sample(places, dice.randint(1, len(places)))
        trials.append({argument: dice.randrange(len(odd_values())) for argument, _, _ in chosen})
    for trial in trials:
        given = {argument: odd_values()[k] for argument, k in trial.items()}
        given = {argument: given.get(argument, value) for argument, value in right.items()}
        wanted = next(((error, given[argument]) for argument, is_right, error in places
                       if not is_right(given[argument])), None)
        told = error_of(call, **given)
        if wanted is None:
            test.assertIsNone(told, given)
        else:
            test.assertIsNotNone(told, given)
            test.assertIs(told[0], wanted[0], given)
            test.assertIs(told[1], wanted[1], given)


def picture(value):
    """What tells a value from a changed one, kinds included."""
    if isinstance(value, (list, tuple)):
        return type(value), [picture(item) for item in value]
    if isinstance(value, dict):
        return dict, [(picture(key), picture(value[key])) for key in value]
    if isinstance(value, World):
        return World, value.turns, value.asks, value.start
    if isinstance(value, Share):
        return Share, value.top, value.bottom
    return type(value), value


def kept(call, *args, **named):
    """The answer of a call that must leave its arguments as they were and answer the same again."""
    before = picture([list(args), named])
    told = call(*args, **named)
    assert picture([list(args), named]) == before, "an argument was changed"
    first = copy.deepcopy(told)
    for part in told if isinstance(told, tuple) else (told,):
        if isinstance(part, (list, dict)):
            part.clear()
    assert call(*args, **named) == first, "a later answer is another one"
    return first


def loop_world(*prices, name="a"):
    """A ring: from each standing one ask leads to the next one."""
    size = len(prices)
    return World(((),) * size, tuple(((name, (((k + 1) % size, price),)),) for k, price in enumerate(prices)))


def small_world(dice):
    """A world of 1 to 3 standings with few names."""
    size = dice.randint(1, 3)
    while True:
        turns = tuple(tuple(t for t in range(size) if t != s and dice.random() < 0.3) for s in range(size))
        asks = tuple(tuple((name, random_answers(dice, size)) for name in "ab" if dice.random() < 0.8)
                     for _ in range(size))
        try:
            return World(turns, asks, start=dice.randrange(size))
        except errors.BadWorld:
            continue


def random_links(dice, first, second):
    """Links from the first world to the second one, None if no ask is common to all its standings."""
    common = [name for name in second.names() if all(name in second.asked(k) for k in range(second.size))]
    if not common:
        return None
    keys = {(name, goal) for row in first.asks for name, answers in row for goal, _ in answers}
    return {key: dice.choice(common) for key in sorted(keys)}
