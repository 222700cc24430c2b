"""[10], [11]: what makes a world, and the words of BadWorld."""

import unittest

from neverowing.errors import BadWorld
from neverowing.worlds import World
from tests.helpers import (EXAMPLE_ASKS, EXAMPLE_TURNS, error_of, is_plain_integer, is_right_name, nested,
                           odd_values, random_world)

STAY = (("stay", ((0, 1),)),)
NAMES = ["".join((a, b)) for a in "abcdefghijklmnopqrstuvwxyz" for b in "abcdefghij"]


def is_ascending(row):
    return list(row) == sorted(set(row))


def right_turns(turns):
    if type(turns) is not tuple or len(turns) not in range(1, 401):
        return False
    for standing, row in enumerate(turns):
        if type(row) is not tuple or any(not is_plain_integer(goal) for goal in row):
            return False
        if any(goal not in range(len(turns)) or goal == standing for goal in row) or not is_ascending(row):
            return False
    return True


def right_pair(value):
    return type(value) is tuple and len(value) == 2


def right_answers(answers, size):
    if type(answers) is not tuple or not answers or not all(right_pair(answer) for answer in answers):
        return False
    for goal, price in answers:
        if not is_plain_integer(goal) or not is_plain_integer(price) or goal not in range(size) or price < 0:
            return False
    return is_ascending(answers) and len({goal for goal, _ in answers}) == len(answers)


def right_asks(asks, size):
    if type(asks) is not tuple or len(asks) != size:
        return False
    for row in asks:
        if type(row) is not tuple or len(row) > 160 or not all(right_pair(ask) for ask in row):
            return False
        if not all(is_right_name(name) and right_answers(answers, size) for name, answers in row):
            return False
        if not is_ascending([name for name, _ in row]):
            return False
    return True


def silent(turns, asks):
    heard = {standing for standing, row in enumerate(asks) if row}
    for _ in turns:
        heard |= {standing for standing, row in enumerate(turns) if heard & set(row)}
    return len(heard) < len(turns)


def first_word(turns, asks, start):
    """The word of BadWorld, or None for a world; written another way than in the package."""
    if not right_turns(turns):
        return "turns"
    if not right_asks(asks, len(turns)):
        return "asks"
    if not is_plain_integer(start) or start not in range(len(turns)):
        return "start"
    return "silent" if silent(turns, asks) else None


def places(value, path=()):
    """The paths to all places within nested tuples, the whole first."""
    yield path
    if isinstance(value, tuple):
        for k, item in enumerate(value):
            yield from places(item, path + (k,))


def put(value, path, other):
    """The nested tuple with another value at the path."""
    if not path:
        return other
    k = path[0]
    return value[:k] + (put(value[k], path[1:], other),) + value[k + 1:]


def at(value, path):
    for k in path:
        value = value[k]
    return value


def others_for(value):
    """What may stand in the place of the value: all kinds, and what is nearly right."""
    found = odd_values()
    if isinstance(value, tuple):
        found = found + [list(value), value[::-1], value[1:], value[:-1], value + value, value + (0,)]
        found = found + [value[:1] + value, dict(enumerate(value)), (value,)]
    if isinstance(value, int):
        found = found + [value + 1, value - 1, str(value), (value,), [value]]
    if isinstance(value, str):
        found = found + [value.upper(), value + "z", value + " ", list(value), value + "1", (value,)]
    return found


class WorldMakingTest(unittest.TestCase):
    def check(self, turns, asks, start):
        word = first_word(turns, asks, start)
        expected = None if word is None else (BadWorld, word)
        before = repr((turns, asks))
        self.assertEqual(error_of(World, turns, asks, start=start), expected)
        self.assertEqual(repr((turns, asks)), before)
        if word is None:
            world = World(turns, asks, start=start)
            held = (world.turns, world.asks, world.start, world.size)
            self.assertEqual(repr(held), repr((turns, asks, start, len(turns))))

    def test_example(self):
        world = World(EXAMPLE_TURNS, EXAMPLE_ASKS)
        self.assertEqual((world.turns, world.asks), (EXAMPLE_TURNS, EXAMPLE_ASKS))
        self.assertEqual((world.start, world.size), (0, 2))

    def test_start_is_zero_by_default(self):
        self.assertEqual(World(EXAMPLE_TURNS, EXAMPLE_ASKS).start, 0)
        self.assertEqual(World(EXAMPLE_TURNS, EXAMPLE_ASKS, start=1).start, 1)

    def test_random_worlds(self):
        for seed in range(60):
            world = random_world(seed)
            self.check(world.turns, world.asks, world.start)

    def test_any_value_in_each_place_of_turns(self):
        for seed in range(12):
            world = random_world(seed)
            for path in places(world.turns):
                for other in others_for(at(world.turns, path)):
                    self.check(put(world.turns, path, other), world.asks, world.start)

    def test_any_value_in_each_place_of_asks(self):
        worlds = [World(EXAMPLE_TURNS, EXAMPLE_ASKS)] + [random_world(seed) for seed in range(2)]
        for world in worlds:
            for path in places(world.asks):
                for other in others_for(at(world.asks, path)):
                    self.check(world.turns, put(world.asks, path, other), world.start)

    def test_any_value_as_start(self):
        for seed in range(12):
            world = random_world(seed)
            for start in odd_values() + [world.size - 1, world.size]:
                self.check(world.turns, world.asks, start)

    def test_none_is_no_start(self):
        self.assertEqual(error_of(World, EXAMPLE_TURNS, EXAMPLE_ASKS, start=None), (BadWorld, "start"))

    def test_flags_are_no_integers(self):
        asks = EXAMPLE_ASKS
        self.assertEqual(error_of(World, ((), (False,)), asks), (BadWorld, "turns"))
        self.assertEqual(error_of(World, EXAMPLE_TURNS, asks, start=False), (BadWorld, "start"))
        self.assertEqual(error_of(World, EXAMPLE_TURNS, asks, start=True), (BadWorld, "start"))
        for answers in (((False, 2), (1, 0)), ((0, True), (1, 0)), ((0, 2), (True, 0)), ((0, 2), (1, False))):
            self.assertEqual(error_of(World, EXAMPLE_TURNS, ((("go", answers),), asks[1])), (BadWorld, "asks"))

    def test_order_of_the_words(self):
        wrong = [None, True, 7, "go", (), [()], {}, nested(list), nested(tuple)]
        for turns in wrong:
            for asks in wrong + [EXAMPLE_ASKS]:
                for start in wrong + [0]:
                    self.assertEqual(error_of(World, turns, asks, start=start), (BadWorld, "turns"))
        for asks in wrong:
            for start in wrong + [0]:
                self.assertEqual(error_of(World, EXAMPLE_TURNS, asks, start=start), (BadWorld, "asks"))
        for start in (None, True, -1, 2, "0", (0,)):
            self.assertEqual(error_of(World, ((), ()), (STAY, ()), start=start), (BadWorld, "start"))
        self.assertEqual(error_of(World, ((), ()), (STAY, ())), (BadWorld, "silent"))

    def test_number_of_standings(self):
        self.assertEqual(error_of(World, (), ()), (BadWorld, "turns"))
        self.assertEqual(World(((),), (STAY,)).size, 1)
        self.assertEqual(World(((),) * 400, (STAY,) * 400).size, 400)
        self.assertEqual(error_of(World, ((),) * 401, (STAY,) * 401), (BadWorld, "turns"))

    def test_another_number_of_items(self):
        for many in (0, 1, 3):
            self.assertEqual(error_of(World, EXAMPLE_TURNS, (STAY,) * many), (BadWorld, "asks"))

    def test_turns_to_the_standing_itself(self):
        self.assertEqual(error_of(World, ((0,),), (STAY,)), (BadWorld, "turns"))
        self.assertEqual(error_of(World, ((), (0, 1)), EXAMPLE_ASKS), (BadWorld, "turns"))

    def test_turns_ascend_without_duplicates(self):
        asks = (STAY,) * 3
        for row in ((2, 1), (1, 1), (1, 3), (-1, 1), (1, 2, 2)):
            self.assertEqual(error_of(World, (row, (), ()), asks), (BadWorld, "turns"))
        self.assertEqual(World(((1, 2), (), ()), asks).turns[0], (1, 2))

    def test_letters_of_a_name(self):
        for name in ("a", "z", "abcdefghijkl", "zzzzzzzzzzzz"):
            self.assertEqual(World(((),), (((name, ((0, 0),)),),)).names(), [name])
        for name in ("", "abcdefghijklm", "A", "aB", "a1", "a b", "a\n", "\n", "`", "{", "a-b", "_", None, 5, ("a",)):
            self.assertEqual(error_of(World, ((),), (((name, ((0, 0),)),),)), (BadWorld, "asks"), name)

    def test_names_ascend_without_duplicates(self):
        for names in (("b", "a"), ("a", "a"), ("a", "b", "b"), ("ab", "a")):
            row = tuple((name, ((0, 0),)) for name in names)
            self.assertEqual(error_of(World, ((),), (row,)), (BadWorld, "asks"))

    def test_number_of_asks_at_a_standing(self):
        row = tuple((name, ((0, 0),)) for name in NAMES)
        self.assertEqual(len(World(((),), (row[:160],)).asked(0)), 160)
        self.assertEqual(error_of(World, ((),), (row[:161],)), (BadWorld, "asks"))
        self.assertEqual(error_of(World, ((), ()), (row[:160], row[:161])), (BadWorld, "asks"))

    def test_answers_ascend_with_unlike_next_standings(self):
        for answers in ((), ((1, 0), (0, 0)), ((0, 1), (0, 2)), ((0, 1), (0, 1)), ((0, 1), (1, 0), (1, 0)),
                        ((0, -1),), ((2, 0),), ((-1, 0),), ((0,),), ((0, 1, 2),), ([0, 1],), [(0, 1)]):
            asks = ((("go", answers),), STAY)
            self.assertEqual(error_of(World, ((), ()), asks), (BadWorld, "asks"), answers)
        self.assertEqual(World(((), ()), ((("go", ((0, 9), (1, 0))),), STAY)).price(0, "go", 0), 9)

    def test_prices_of_any_size(self):
        world = World(((),), ((("go", ((0, 10 ** 3000),)),),))
        self.assertEqual(world.price(0, "go", 0), 10 ** 3000)

    def test_silent(self):
        self.assertEqual(error_of(World, ((),), ((),)), (BadWorld, "silent"))
        self.assertEqual(error_of(World, ((1,), ()), (STAY, ())), (BadWorld, "silent"))
        self.assertEqual(error_of(World, ((), (2,), (1,)), (STAY, (), ())), (BadWorld, "silent"))
        self.assertIsNone(error_of(World, ((), (2,), (0,)), (STAY, (), ())))
        # An answer leads to an ask, but only turns count.
        self.assertEqual(error_of(World, ((), ()), ((("go", ((0, 0), (1, 0))),), ())), (BadWorld, "silent"))

    def test_long_chains_of_turns(self):
        down = ((),) + tuple((k,) for k in range(399))
        up = tuple((k + 1,) for k in range(399)) + ((),)
        self.assertIsNone(error_of(World, down, (STAY,) + ((),) * 399))
        self.assertIsNone(error_of(World, up, ((),) * 399 + (STAY,)))
        self.assertEqual(error_of(World, down, ((),) * 399 + (STAY,)), (BadWorld, "silent"))
        self.assertEqual(error_of(World, up, ((),) * 398 + (STAY, ())), (BadWorld, "silent"))


if __name__ == "__main__":
    unittest.main()
