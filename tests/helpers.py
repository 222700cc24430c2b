"""What several tests use."""

import random

from neverowing import errors
from neverowing.shares import Share
from neverowing.worlds import World

# The example of [12].
EXAMPLE_TURNS = ((), (0,))
EXAMPLE_ASKS = ((("go", ((0, 2), (1, 0))),), (("go", ((0, 3),)),))


def example():
    return World(EXAMPLE_TURNS, EXAMPLE_ASKS)


def nested(kind, depth=25):
    """A value of lists, tuples or dicts, nested this deep."""
    value = 0
    for _ in range(depth):
        value = {0: value} if kind is dict else kind([value])
    return value


def odd_values():
    """Values of all kinds that callers may pass, each one new."""
    return [
        None, True, False, -1, 0, 1, 2, 400, 10 ** 30, -10 ** 30,
        "", "go", "Go", "g0", "g o", "a\nb", "a" * 13, "~ {x}",
        (), (0,), (True,), (0, 1), (1, 0), (False, True), (True, 0), (0, 0), ("go",), ("go", 0),
        ((0, 2),), ((), ()), (None, None), ([],), ({},), (Share(1),),
        [], [0], [0, 1], ["go"], [[]], [()],
        {}, {0: 1}, {"go": 0}, {(0, "go"): 1},
        nested(list), nested(tuple), nested(dict),
        Share(1), Share(0), Share(1, 2), example(), errors.OweError(), errors.NoStanding(0),
    ]


def is_plain_integer(value):
    return type(value) is int


def is_right_name(value):
    """Written another way than in the package."""
    return type(value) is str and 1 <= len(value) <= 12 and value.isascii() and value.isalpha() and value.islower()


def error_of(call, *args, **named):
    """The pair of the class of the error that the call raises and its `what`."""
    try:
        call(*args, **named)
    except errors.OweError as error:
        return type(error), error.what
    return None


def random_world(seed):
    """A world of 1 to 7 standings; no chance but the seed."""
    dice = random.Random(seed)
    size = dice.randint(1, 7)
    while True:
        turns = tuple(
            tuple(t for t in range(size) if t != s and dice.random() < 0.25) for s in range(size))
        asks = tuple(random_asks(dice, size) for _ in range(size))
        try:
            return World(turns, asks, start=dice.randrange(size))
        except errors.BadWorld:
            continue


def random_asks(dice, size):
    names = [name for name in ("a", "b", "go", "stay") if dice.random() < 0.4]
    return tuple((name, random_answers(dice, size)) for name in names)


def random_answers(dice, size):
    goals = sorted(dice.sample(range(size), dice.randint(1, size)))
    return tuple((goal, dice.randint(0, 5)) for goal in goals)
