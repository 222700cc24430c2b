"""[22], [24], [25]: certificates that are made, and the play of one against the other."""

import random
import unittest

from neverowing.errors import BadCount, BadIncome, BadTable, NoAnswer, NoStanding
from neverowing.papers import foe_fault, foe_paper, keeper_fault, keeper_paper, play
from neverowing.purses import grain, mean, purse, purses
from neverowing.shares import Share
from neverowing.worlds import World
from tests.helpers import (check_errors, error_of, example, is_count, is_dict, is_plain_integer, is_right_income,
                           is_start, kept, loop_world, odd_values, random_income, random_world)
from tests.reference import foe_faults, grains, keeper_faults

HALF = Share(3, 2)
TABLE = {(0, "go"): 1, (1, "go"): 0}
MOVES = {0: (0, "go"), 1: (1, "go")}
ENDLESS = (0, 1, 2, 77, 9999, 10 ** 4)


def cases(many):
    """Worlds with an income each, often the least that is borne; the prices of some are great."""
    for seed in range(many):
        dice = random.Random(seed)
        world = random_world(seed)
        income = mean(world) if seed % 2 else random_income(dice, world)
        if seed % 5 == 0:
            world = world.scaled(10 ** 20)
            names = world.names()
            income = {name: Share(dice.randint(0, 12 * 10 ** 20), dice.randint(1, 4)) for name in names}
            income = mean(world) if seed % 2 else income
        yield dice, world, income


def keeper_walk(world, table, start):
    walk = [start]
    for standing in walk:
        for goal in list(world.turns[standing]) + [table[(standing, name)] for name in world.asked(standing)]:
            if goal not in walk:
                walk.append(goal)
    return walk


def lowest(changes):
    """The least sum of some first changes, that of none among them."""
    sums = [0]
    for change in changes:
        sums.append(sums[-1] + change)
    return min(sums)


class KeeperPaperTest(unittest.TestCase):
    def test_papers_have_no_fault(self):
        for _, world, income in cases(300):
            for start, least in enumerate(purses(world, income)):
                paper = keeper_paper(world, income, start=start)
                if least is None:
                    self.assertIsNone(paper)
                    continue
                heights, table = paper
                self.assertEqual(keeper_faults(world, income, least, heights, table, start), [])
                self.assertIsNone(keeper_fault(world, income, least, heights, table, start=start))
                walk = keeper_walk(world, table, start)
                self.assertEqual(sorted(heights), sorted(walk))
                self.assertEqual(sorted(table), sorted((s, name) for s in walk for name in world.asked(s)))

    def test_no_certificate_shows_less(self):
        # [22], the Fact: certificates without a fault are never for less than the least purse.
        for dice, world, income in cases(200):
            least = purse(world, income)
            heights, table = keeper_paper(world, income) or ({}, {})
            for _ in range(30):
                guess = {key: max(0, value + dice.choice((-1, 0, 0, 1))) for key, value in heights.items()}
                ways = {(s, name): dice.choice([goal for goal, _ in world.answers(s, name)])
                        for s in range(world.size) for name in world.asked(s)}
                for one in (table, ways):
                    for bound in ((least or 1) - 1, 30 * 10 ** 20):
                        if keeper_fault(world, income, bound, guess, one) is None:
                            self.assertIsNotNone(least)
                            self.assertLessEqual(least, bound)

    def test_kinds_and_new_values(self):
        w = example()
        heights, table = kept(keeper_paper, w, HALF)
        self.assertIs(type(keeper_paper(w, HALF)), tuple)
        self.assertEqual([heights, table], [{0: 0, 1: 3}, TABLE])
        self.assertEqual([type(part) for part in (heights, table)], [dict, dict])
        self.assertTrue(all(is_plain_integer(part) for part in list(heights) + list(heights.values())))
        self.assertIsNone(keeper_paper(w, Share(1)))
        self.assertEqual(keeper_paper(w, HALF, start=None), keeper_paper(w, HALF))

    def test_wrong_inputs(self):
        w = example()
        check_errors(self, keeper_paper, {"world": w, "income": HALF, "start": 1},
                     [("income", is_right_income(w), BadIncome), ("start", is_start(w), NoStanding)])

    def test_long_ring(self):
        world = loop_world(*[1] * 399 + [2])
        heights, table = keeper_paper(world, Share(401, 400), start=7)
        self.assertEqual(keeper_faults(world, Share(401, 400), 7, heights, table, 7), [])
        self.assertEqual(len(heights), 400)


class FoePaperTest(unittest.TestCase):
    def check(self, world, income, least, start):
        paper = foe_paper(world, income, least, start=start)
        self.assertIs(type(paper), tuple)
        self.assertEqual([type(part) for part in paper], [dict, dict, dict])
        self.assertEqual(foe_faults(world, income, least, *paper, start), [])
        self.assertIsNone(foe_fault(world, income, least, *paper, start=start))
        for part in paper:
            self.assertTrue(all(is_plain_integer(key) and 0 <= key < world.size for key in part))

    def test_each_bound_up_to_the_least_purse(self):
        for _, world, income in cases(150):
            for start, least in enumerate(purses(world, income)):
                if least is None:
                    for bound in ENDLESS:
                        self.check(world, income, bound, start)
                    continue
                for bound in sorted({min(least, k) for k in (0, 1, 2, 3, 4, 5, 9, 20, 10 ** 4, least - 1) if k >= 0}):
                    if bound <= 10 ** 4:
                        self.check(world, income, bound, start)
                if least < 10 ** 4:
                    self.assertIsNone(foe_paper(world, income, least + 1, start=start))
                    self.assertIsNone(foe_paper(world, income, 10 ** 4, start=start))

    def test_all_bounds_of_some_worlds(self):
        for _, world, income in cases(30):
            least = purse(world, income)
            for bound in range(60 if least is None else min(least, 60) + 1):
                self.check(world, income, bound, world.start)

    def test_equal_steps(self):
        # The foe goes round where nothing changes until it reaches what is dear.
        world = World(((),) * 5, (
            (("a", ((1, 0),)), ("b", ((0, 0),))), (("a", ((2, 0),)), ("b", ((0, 0),))),
            (("a", ((3, 0),)), ("b", ((1, 0),))), (("a", ((4, 5),)), ("b", ((2, 0),))), (("a", ((4, 0),)),)))
        self.assertEqual(purses(world, Share(0)), [5, 5, 5, 5, 0])
        for start in range(5):
            self.check(world, Share(0), purse(world, Share(0), start=start), start)

    def test_equal_steps_of_one_grain(self):
        world = World(((),) * 3, ((("a", ((2, 1),)),), (("a", ((0, 0),)),), (("a", ((2, 0),)),)))
        self.assertEqual(purses(world, Share(0)), [1, 1, 0])
        for start in range(3):
            self.check(world, Share(0), purse(world, Share(0), start=start), start)

    def test_much_comes_in_first(self):
        world = loop_world(*[0] * 10 + [8, 8])
        for start in range(12):
            for bound in ENDLESS:
                self.check(world, Share(1), bound, start)

    def test_turns_and_asks_that_cost_alike(self):
        world = World(((), (0,)), ((("b", ((1, 0),)),), (("a", ((1, 1),)), ("b", ((0, 2),)))))
        self.assertEqual([mean(world), mean(world, start=1)], [Share(1), Share(1)])
        for start in (0, 1):
            for bound in ENDLESS:
                self.check(world, Share(0), bound, start)

    def test_ways_out_that_are_too_dear(self):
        # From 0 an answer leads to where no purse is enough.
        world = World(((), (), ()), ((("a", ((1, 0), (2, 3))),), (("a", ((1, 1),)),), (("a", ((2, 0),)),)))
        self.assertEqual(purses(world, Share(0)), [3, None, 0])
        for bound in range(4):
            self.check(world, Share(0), bound, 0)
        world = world.with_price(0, "a", 2, 9000).with_price(1, "a", 1, 2)
        for bound in (8999, 9000):
            self.check(world, Share(1), bound - 1, 0)

    def test_slow_rises(self):
        world = loop_world(*[1] * 399 + [2])
        for bound in ENDLESS:
            self.check(world, Share(1), bound, 0)
            self.check(world, Share(400 * 10 ** 20 + 1, 400 * 10 ** 20), bound, 5)
        self.check(world, Share(401, 400), 399, 399)

    def test_no_certificate_shows_more(self):
        # [24], the first Fact.
        for dice, world, income in cases(200):
            least = purse(world, income)
            paper = foe_paper(world, income, min(least or 0, 10 ** 4))
            for _ in range(30):
                lows = {key: value + dice.choice((-1, 0, 0, 0, 1, 2)) for key, value in paper[0].items()}
                ranks = {key: value + dice.choice((0, 0, 1)) for key, value in paper[1].items()}
                for bound in ((least or 0) + 1, (least or 0) + 2):
                    if foe_fault(world, income, bound, lows, ranks, paper[2]) is None:
                        self.assertTrue(least is None or least >= bound)

    def test_new_values(self):
        w = example()
        self.assertEqual([type(part) for part in kept(foe_paper, w, Share(1), 10)], [dict, dict, dict])
        self.assertIsNone(foe_paper(w, HALF, 1))
        self.assertIsNotNone(foe_paper(w, HALF, 0))
        self.assertIsNotNone(foe_paper(w, HALF, 3, start=1))
        self.assertIsNone(foe_paper(w, HALF, 4, start=1))

    def test_wrong_inputs(self):
        w = example()
        check_errors(self, foe_paper, {"world": w, "income": HALF, "least": 0, "start": 1}, [
            ("income", is_right_income(w), BadIncome), ("least", is_count(0, 10 ** 4), BadCount),
            ("start", is_start(w), NoStanding)])
        for value in (-1, 10 ** 4 + 1):
            self.assertEqual(error_of(foe_paper, w, HALF, value), (BadCount, value))
        self.assertIsNone(error_of(foe_paper, w, HALF, 10 ** 4))


class PlayTest(unittest.TestCase):
    def test_example(self):
        told = play(example(), HALF, TABLE, MOVES, 2)
        self.assertEqual(told, [(0, "go", 1, 3), (1, "go", 0, -3)])
        self.assertIs(type(told), list)
        self.assertEqual([type(part) for part in told[0]], [int, str, int, int])
        self.assertEqual(play(example(), HALF, TABLE, MOVES, 0), [])
        self.assertEqual(play(example(), HALF, TABLE, MOVES, 1, start=1), [(1, "go", 0, -3)])
        self.assertEqual(len(play(example(), HALF, TABLE, MOVES, 300)), 300)

    def test_turns(self):
        told = play(example(), HALF, TABLE, {1: (0, "go")}, 5, start=1)
        self.assertEqual(told, [(0, "go", 1, 3)] * 5)

    def test_fewer_asks(self):
        w = example()
        for move in odd_values() + [(0, "x"), (1, "go"), (0, "go", 0), [0, "go"], (False, "go")]:
            self.assertEqual(play(w, HALF, TABLE, {0: move}, 5), [])
            self.assertEqual(play(w, HALF, {}, {0: move}, 5), [])
        self.assertEqual(play(w, HALF, TABLE, {0: (0, "go")}, 5), [(0, "go", 1, 3)])
        self.assertEqual(play(w, HALF, TABLE, {}, 300), [])

    def test_no_answer(self):
        w = example()
        for value in odd_values():
            if is_plain_integer(value) and value in (0, 1):
                continue
            error, what = error_of(play, w, HALF, {(0, "go"): value}, MOVES, 1)
            self.assertIs(error, NoAnswer)
            self.assertIs(what, value)
            self.assertIsNone(error_of(play, w, HALF, {(0, "go"): value}, MOVES, 0))
        self.assertEqual(error_of(play, w, HALF, {}, MOVES, 1), (NoAnswer, None))
        self.assertEqual(error_of(play, w, HALF, {(0, "go"): 1}, MOVES, 9), (NoAnswer, None))
        self.assertEqual(error_of(play, w, HALF, {(0, "go"): 1, (1, "go"): 1}, MOVES, 9), (NoAnswer, 1))
        self.assertIsNone(error_of(play, w, HALF, {(0, "go"): 1, (1, "go"): 1}, MOVES, 1))

    def test_rows(self):
        for dice, world, income in cases(100):
            parts, gains = grains(world, income)
            table = {(s, name): dice.choice(world.answers(s, name))[0]
                     for s in range(world.size) for name in world.asked(s)}
            moves = {}
            for standing in range(world.size):
                asking = [there for there in world.by_turns(standing) if world.asked(there)]
                there = dice.choice(asking)
                moves[standing] = (there, dice.choice(world.asked(there)))
            told = kept(play, world, income, table, moves, 20, start=0)
            self.assertEqual(len(told), 20)
            standing = 0
            for there, name, goal, change in told:
                self.assertEqual((there, name), moves[standing])
                self.assertEqual(goal, table[(there, name)])
                self.assertEqual(change, gains[name] - parts * world.price(there, name, goal))
                standing = goal

    def test_facts(self):
        checked = 0
        for dice, world, income in cases(300):
            least = purse(world, income)
            if least is None:
                continue
            heights, table = keeper_paper(world, income)
            any_moves = {standing: (standing, dice.choice(world.asked(standing)))
                         for standing in range(world.size) if world.asked(standing)}
            told = play(world, income, table, any_moves, 300)
            self.assertGreaterEqual(lowest([step[3] for step in told]), -least)
            if least > 10 ** 4:
                continue
            moves = foe_paper(world, income, least)[2]
            told = play(world, income, table, moves, 300)
            self.assertEqual(lowest([step[3] for step in told]), -least)
            any_table = {(s, name): dice.choice(world.answers(s, name))[0]
                         for s in range(world.size) for name in world.asked(s)}
            told = play(world, income, any_table, moves, 300)
            self.assertLessEqual(lowest([step[3] for step in told]), -least)
            checked += least > 0
        self.assertGreater(checked, 20)

    def test_wrong_inputs(self):
        w = example()
        right = {"world": w, "income": HALF, "table": TABLE, "moves": {}, "asks": 3, "start": 0}
        check_errors(self, play, right, [
            ("income", is_right_income(w), BadIncome), ("table", is_dict, BadTable), ("moves", is_dict, BadTable),
            ("asks", is_count(0, 300), BadCount), ("start", is_start(w), NoStanding)])
        self.assertEqual(error_of(play, w, HALF, {}, MOVES, 301), (BadCount, 301))
        self.assertEqual(error_of(play, w, HALF, {}, MOVES, 300, start=5), (NoStanding, 5))

    def test_grains(self):
        self.assertEqual(grain(example(), HALF), 2)
        self.assertEqual(play(example(), Share(0), TABLE, MOVES, 2), [(0, "go", 1, 0), (1, "go", 0, -3)])


if __name__ == "__main__":
    unittest.main()
