"""[12]: the methods of a world."""

import itertools
import unittest

from neverowing.errors import BadOrder, BadPrice, BadWorld, NoAnswer, NoAsk, NoStanding
from neverowing.shares import Share
from neverowing.worlds import World
from tests.helpers import error_of, example, is_plain_integer, odd_values, random_world

STAY = (("stay", ((0, 1),)),)


def worlds():
    return [example()] + [random_world(seed) for seed in range(40)]


def no_standings(world):
    return [v for v in odd_values() if not is_plain_integer(v) or not 0 <= v < world.size] + [world.size]


def no_asks(world, standing):
    names = dict(world.asks[standing])
    return [value for value in odd_values() if not (type(value) is str and value in names)]


def no_answers(answers):
    goals = [goal for goal, _ in answers]
    return [value for value in odd_values() if not (is_plain_integer(value) and value in goals)]


def asks_of(world):
    """All triples of a standing, a name and its answers."""
    return [(standing, name, answers) for standing in range(world.size) for name, answers in world.asks[standing]]


def closure(standing, steps):
    """The standings that are come to, by going on until nothing is added."""
    found = {standing}
    for _ in range(len(steps)):
        found |= {goal for place in found for goal in steps[place]}
    return sorted(found)


def held(world):
    return (world.turns, world.asks, world.start, world.size)


def with_answers(world, standing, name, answers):
    """The asks of the world with other answers of one ask (no ask for None)."""
    rows = [dict(row) for row in world.asks]
    if answers is None:
        del rows[standing][name]
    else:
        rows[standing][name] = answers
    return tuple(tuple(sorted(row.items())) for row in rows)


class LookingTest(unittest.TestCase):
    def test_example_of_the_interface(self):
        w = example()
        told = [w.size, w.names(), w.by_turns(1), w.answers(0, "go"), w.price(1, "go", 0), w.renamed((1, 0)).start]
        self.assertEqual(told, [2, ["go"], [0, 1], [(0, 2), (1, 0)], 3, 1])

    def test_names(self):
        for world in worlds():
            self.assertEqual(world.names(), sorted({name for _, name, _ in asks_of(world)}))

    def test_by_turns(self):
        for world in worlds():
            for standing in range(world.size):
                self.assertEqual(world.by_turns(standing), closure(standing, world.turns))

    def test_by_turns_goes_along_turns_alone(self):
        self.assertEqual(example().by_turns(0), [0])

    def test_reach(self):
        for world in worlds():
            steps = [set(row) for row in world.turns]
            for standing, _, answers in asks_of(world):
                steps[standing] |= {goal for goal, _ in answers}
            for standing in range(world.size):
                self.assertEqual(world.reach(standing), closure(standing, steps))

    def test_reach_leaves_out_what_is_not_come_to(self):
        world = World(((), (0,), (0, 1)), (STAY, STAY, (("go", ((1, 0), (2, 0))),)))
        self.assertEqual([world.reach(k) for k in range(3)], [[0], [0, 1], [0, 1, 2]])

    def test_long_chains(self):
        down = ((),) + tuple((k,) for k in range(399))
        world = World(down, (STAY,) + ((),) * 399, start=399)
        self.assertEqual(world.by_turns(399), list(range(400)))
        self.assertEqual(world.reach(399), list(range(400)))
        self.assertEqual(world.by_turns(7), list(range(8)))
        asks = tuple((("go", ((min(k + 1, 399), 0),)),) for k in range(400))
        self.assertEqual(World(((),) * 400, asks).reach(0), list(range(400)))

    def test_asked_answers_and_prices(self):
        for world in worlds():
            for standing in range(world.size):
                self.assertEqual(world.asked(standing), [name for name, _ in world.asks[standing]])
            for standing, name, answers in asks_of(world):
                self.assertEqual(world.answers(standing, name), list(answers))
                for goal, price in answers:
                    self.assertEqual(world.price(standing, name, goal), price)

    def test_new_lists_each_time(self):
        world = example()
        calls = [(world.names,), (world.by_turns, 1), (world.asked, 1), (world.answers, 0, "go"), (world.reach, 0)]
        for call, *args in calls:
            first = call(*args)
            kept = list(first)
            first.append(None)
            first[0] = None
            self.assertEqual(call(*args), kept)
        self.assertEqual(held(world), held(example()))

    def test_no_standing(self):
        for world in worlds()[:8]:
            for value in no_standings(world):
                for call in (world.by_turns, world.asked, world.reach):
                    kind, what = error_of(call, value)
                    self.assertIs(kind, NoStanding)
                    self.assertIs(what, value)


class ErrorOrderTest(unittest.TestCase):
    """Each method with standing, name and goal raises its errors in this order."""

    def check(self, call, args, kind, value):
        found = error_of(call, *args)
        self.assertIsNotNone(found, (call, args))
        self.assertIs(found[0], kind, (call, args))
        self.assertIs(found[1], value, (call, args))

    def calls(self, world):
        """The methods with the number of their arguments."""
        return [(world.answers, 2), (world.without_ask, 2), (world.price, 3), (world.without_answer, 3),
                (world.with_price, 4)]

    def test_no_standing_comes_first(self):
        for world in worlds()[:6]:
            for call, many in self.calls(world):
                for value in no_standings(world):
                    for rest in (["go", 0, 0], ["nono", 0, 0], [None, True, None], [[], {}, ()]):
                        self.check(call, ([value] + rest)[:many], NoStanding, value)

    def test_no_ask_comes_second(self):
        for world in worlds()[:6]:
            for call, many in self.calls(world):
                for standing in range(world.size):
                    for value in no_asks(world, standing):
                        for rest in ([0, 0], [None, True], [[], {}]):
                            self.check(call, ([standing, value] + rest)[:many], NoAsk, value)

    def test_no_answer_comes_third(self):
        for world in worlds()[:6]:
            for call, many in self.calls(world)[2:]:
                for standing, name, answers in asks_of(world):
                    for value in no_answers(answers):
                        for price in (0, -1, None, []):
                            self.check(call, [standing, name, value, price][:many], NoAnswer, value)

    def test_bad_price_comes_last(self):
        for world in worlds()[:6]:
            for standing, name, answers in asks_of(world):
                for goal, _ in answers:
                    for value in odd_values():
                        if not is_plain_integer(value) or value < 0:
                            self.check(world.with_price, [standing, name, goal, value], BadPrice, value)

    def test_an_ask_of_another_standing(self):
        world = World(((), ()), (STAY, (("go", ((0, 0),)),)))
        for call, many in self.calls(world):
            self.check(call, [0, "go", 0, 0][:many], NoAsk, "go")

    def test_an_answer_of_another_ask(self):
        world = World(((), ()), ((("a", ((0, 0),)), ("b", ((1, 0),))), STAY))
        for call, many in self.calls(world)[2:]:
            self.check(call, [0, "a", 1, 0][:many], NoAnswer, 1)

    def test_flags_are_no_standings_and_no_goals(self):
        world = example()
        self.check(world.answers, [True, "go"], NoStanding, True)
        self.check(world.price, [0, "go", False], NoAnswer, False)
        self.check(world.without_answer, [0, "go", True], NoAnswer, True)
        self.check(world.with_price, [0, "go", 1, True], BadPrice, True)


class ChangingTest(unittest.TestCase):
    """The methods that return another world leave their own one as it was."""

    def check(self, world, turns, asks, start):
        self.assertIs(type(world), World)
        self.assertEqual(repr(held(world)), repr((turns, asks, start, len(turns))))

    def test_with_start(self):
        for world in worlds():
            for start in range(world.size):
                self.check(world.with_start(start), world.turns, world.asks, start)

    def test_with_start_wrong(self):
        for world in worlds()[:8]:
            before = held(world)
            for value in no_standings(world):
                self.assertEqual(error_of(world.with_start, value), (BadWorld, "start"))
            self.assertEqual(held(world), before)

    def test_with_price(self):
        for world in worlds():
            before = held(world)
            for standing, name, answers in asks_of(world):
                for k, (goal, _) in enumerate(answers):
                    for price in (0, 1, 10 ** 30):
                        changed = answers[:k] + ((goal, price),) + answers[k + 1:]
                        asks = with_answers(world, standing, name, changed)
                        found = world.with_price(standing, name, goal, price)
                        self.check(found, world.turns, asks, world.start)
            self.assertEqual(held(world), before)

    def test_without_answer(self):
        for world in worlds():
            before = held(world)
            for standing, name, answers in asks_of(world):
                for goal, _ in answers:
                    if len(answers) == 1:
                        found = error_of(world.without_answer, standing, name, goal)
                        self.assertEqual(found, (NoAnswer, goal))
                        continue
                    changed = tuple(answer for answer in answers if answer[0] != goal)
                    asks = with_answers(world, standing, name, changed)
                    found = world.without_answer(standing, name, goal)
                    self.check(found, world.turns, asks, world.start)
            self.assertEqual(held(world), before)

    def test_the_only_answer(self):
        self.assertEqual(error_of(example().without_answer, 1, "go", 0), (NoAnswer, 0))
        self.assertEqual(error_of(example().without_answer, 1, "go", 1), (NoAnswer, 1))
        self.assertEqual(example().without_answer(0, "go", 0).answers(0, "go"), [(1, 0)])

    def test_without_ask(self):
        silent = 0
        for world in worlds():
            before = held(world)
            for standing, name, _ in asks_of(world):
                asks = with_answers(world, standing, name, None)
                if all(any(asks[goal] for goal in closure(k, world.turns)) for k in range(world.size)):
                    self.check(world.without_ask(standing, name), world.turns, asks, world.start)
                else:
                    silent += 1
                    self.assertEqual(error_of(world.without_ask, standing, name), (BadWorld, "silent"))
            self.assertEqual(held(world), before)
        self.assertGreater(silent, 10)

    def test_the_only_ask_that_a_standing_can_come_to(self):
        world = example()
        self.assertEqual(error_of(world.without_ask, 0, "go"), (BadWorld, "silent"))
        self.assertEqual(world.without_ask(1, "go").asked(1), [])
        self.assertEqual(error_of(world.without_ask(1, "go").without_ask, 0, "go"), (BadWorld, "silent"))
        self.assertEqual(held(world), held(example()))

    def test_scaled(self):
        for world in worlds():
            before = held(world)
            for factor in (0, 1, 2, 10 ** 30):
                asks = tuple(
                    tuple((name, tuple((goal, price * factor) for goal, price in answers)) for name, answers in row)
                    for row in world.asks)
                self.check(world.scaled(factor), world.turns, asks, world.start)
            self.assertEqual(held(world), before)

    def test_scaled_wrong(self):
        world = example()
        for value in odd_values():
            if is_plain_integer(value) and value >= 0:
                continue
            kind, what = error_of(world.scaled, value)
            self.assertIs(kind, BadPrice)
            self.assertIs(what, value)


class RenamingTest(unittest.TestCase):
    def orders(self, world):
        orders = list(itertools.permutations(range(world.size)))
        return orders[::max(1, len(orders) // 24)]

    def test_renamed(self):
        for world in worlds():
            before = held(world)
            for order in self.orders(world):
                found = world.renamed(order)
                self.assertEqual(found.size, world.size)
                self.assertEqual(order[found.start], world.start)
                for k, standing in enumerate(order):
                    self.assertEqual(sorted(order[goal] for goal in found.turns[k]), list(world.turns[standing]))
                    told = [(name, tuple(sorted((order[goal], price) for goal, price in answers)))
                            for name, answers in found.asks[k]]
                    self.assertEqual(tuple(told), world.asks[standing])
            self.assertEqual(held(world), before)

    def test_renamed_back(self):
        for world in worlds():
            for order in self.orders(world):
                back = tuple(order.index(k) for k in range(world.size))
                self.assertEqual(world.renamed(order).renamed(back), world)

    def test_renamed_example(self):
        found = example().renamed((1, 0))
        self.assertEqual(found.turns, ((1,), ()))
        self.assertEqual(found.asks, ((("go", ((1, 3),)),), (("go", ((0, 0), (1, 2))),)))
        self.assertEqual(found.start, 1)

    def test_order_of_three(self):
        asks = tuple((("go", ((k, k),)),) for k in range(3))
        found = World(((1, 2), (2,), ()), asks, start=1).renamed((2, 0, 1))
        self.assertEqual(found.turns, ((), (0, 2), (0,)))
        self.assertEqual([found.answers(k, "go") for k in range(3)], [[(0, 2)], [(1, 0)], [(2, 1)]])
        self.assertEqual(found.start, 2)

    def test_wrong_orders(self):
        for world in [example(), World(((),), (STAY,))] + worlds()[:8]:
            right = tuple(range(world.size))
            wrong = [value for value in odd_values() if not self.is_right(value, world.size)]
            wrong += [list(right), right + (0,), right + (world.size,), right[1:], right[:-1] + (-1,),
                      right[:-1] + (world.size,), right[:-1] + (None,), right[:-1] + ([],), (right,), {right: 1}]
            wrong += [tuple(bool(k) if k < 2 else k for k in right), tuple(str(k) for k in right)]
            if world.size > 1:
                wrong.append((0,) + right[:-1])
            for value in wrong:
                kind, what = error_of(world.renamed, value)
                self.assertIs(kind, BadOrder)
                self.assertIs(what, value)

    def is_right(self, value, size):
        if type(value) is not tuple or not all(is_plain_integer(item) for item in value):
            return False
        return sorted(value) == list(range(size))

    def test_long_order(self):
        world = World(((),) * 400, tuple((("go", ((k, k),)),) for k in range(400)), start=3)
        found = world.renamed(tuple(range(399, -1, -1)))
        self.assertEqual((found.start, found.answers(0, "go")), (396, [(0, 399)]))
        self.assertEqual(error_of(world.renamed, tuple(range(399)))[0], BadOrder)


class EqualTest(unittest.TestCase):
    def test_equal(self):
        for seed in range(40):
            world = random_world(seed)
            again = World(world.turns, world.asks, start=world.start)
            self.assertIs(world == again, True)
            self.assertIs(world != again, False)
            self.assertIs(world == world, True)

    def test_each_part_counts(self):
        world = example()
        others = [world.with_start(1), world.with_price(0, "go", 0, 9), world.without_ask(1, "go"),
                  world.renamed((1, 0)), World(((), ()), world.asks), World(((1,), (0,)), world.asks), world.scaled(2)]
        for other in others:
            self.assertIs(world == other, False)
            self.assertIs(other == world, False)
            self.assertIs(world != other, True)

    def test_equal_just_by_turns_asks_and_start(self):
        found = [random_world(seed) for seed in range(25)]
        for one, two in itertools.product(found, found):
            self.assertIs(one == two, held(one) == held(two))

    def test_equal_to_nothing_else(self):
        world = World(((),), (STAY,))
        for value in odd_values() + [held(world), (world.turns, world.asks, 0), Share(0), world.asks]:
            self.assertIs(world == value, False)
            self.assertIs(value == world, False)


if __name__ == "__main__":
    unittest.main()
