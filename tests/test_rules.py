"""[33], [34]: rules and what they cost."""

import random
import unittest

from neverowing.errors import BadCount, BadIncome, BadRule, BadTable, NoAsk, NoStanding
from neverowing.papers import keeper_paper
from neverowing.purses import grain, mean, purse, purses
from neverowing.rules import Rule, breaking, follows, rule_world
from neverowing.shares import Share
from neverowing.worlds import World
from neverowing.worths import worths
from tests.helpers import (check_errors, error_of, example, is_count, is_dict, is_right_income, is_start, kept,
                           loop_world, odd_values, random_income, random_world)
from tests.reference import grains, least_purses

HALF = Share(3, 2)
TABLE = {(0, "go"): 1, (1, "go"): 0}


def keys_of(world):
    return [(standing, name) for standing in range(world.size) for name in world.asked(standing)]


def random_table(dice, world):
    return {key: dice.choice(world.answers(*key))[0] for key in keys_of(world)}


def wanted_goal(world, choice, standing, name):
    """The choice of [33], word by word."""
    answers = world.answers(standing, name)
    goals = sorted(goal for goal, _ in answers)
    if choice == "first":
        return goals[0]
    if choice == "cheapest":
        least = min(price for _, price in answers)
        return min(goal for goal, price in answers if price == least)
    numbers = least_purses(world, choice[1])
    parts = grains(world, choice[1])[0]
    sums = {goal: parts * price + numbers[goal] for goal, price in answers if numbers[goal] is not None}
    return min([goal for goal in sums if sums[goal] == min(sums.values())], default=goals[0])


def shortest_breaking(rule, income, purse_then, start, most):
    """How many asks the shortest row has behind which the keeper owes, by a look at all rows."""
    world = rule.world
    parts, gains = grains(world, income)
    layer = {(start, purse_then)}
    for many in range(1, most + 1):
        found = set()
        for standing, rest in layer:
            for there in world.by_turns(standing):
                for name in world.asked(there):
                    goal = rule(there, name)
                    found.add((goal, rest + gains[name] - parts * world.price(there, name, goal)))
        if any(rest < 0 for _, rest in found):
            return many
        layer = found
    return None


class RuleTest(unittest.TestCase):
    def test_example(self):
        w = example()
        rule = Rule(w, "first")
        self.assertEqual([rule(0, "go"), Rule(w, "cheapest")(0, "go"), Rule(w, ("height", Share(2)))(0, "go")],
                         [0, 1, 1])
        self.assertEqual(breaking(rule, HALF, 1), [(0, "go"), (0, "go")])

    def test_choices(self):
        for seed in range(150):
            dice = random.Random(seed)
            w = random_world(seed)
            income = mean(w) if seed % 3 else random_income(dice, w)
            for choice in ("first", "cheapest", ("height", income), ("height", {n: Share(0) for n in w.names()})):
                rule = Rule(w, choice)
                wanted = {key: wanted_goal(w, choice, *key) for key in keys_of(w)}
                self.assertEqual(rule.table(), wanted)
                self.assertEqual({key: rule(*key) for key in keys_of(w)}, wanted)
                self.assertIs(rule.world, w)

    def test_ties(self):
        w = World(((), (), ()), ((("a", ((0, 3), (1, 2), (2, 2))),), (("a", ((1, 0),)),), (("a", ((2, 0),)),)))
        self.assertEqual([Rule(w, choice)(0, "a") for choice in ("first", "cheapest", ("height", Share(0)))], [0, 1, 1])
        w = w.with_price(0, "a", 1, 3)
        self.assertEqual(Rule(w, "cheapest")(0, "a"), 2)

    def test_heights_that_are_none(self):
        # From 0 no purse is enough behind 0 and 1, but behind 2.
        asks = ((("a", ((0, 0), (1, 0), (2, 50))),), (("a", ((1, 7),)),), (("a", ((2, 0),)),))
        w = World(((), (), ()), asks)
        self.assertEqual(purses(w, Share(0)), [0, None, 0])
        self.assertEqual(Rule(w, ("height", Share(0)))(0, "a"), 0)
        w = w.with_price(0, "a", 0, 1)
        self.assertEqual(purses(w, Share(0)), [50, None, 0])
        self.assertEqual(Rule(w, ("height", Share(0))).table(), {(0, "a"): 2, (1, "a"): 1, (2, "a"): 2})
        # All of them are None: the least next standing, however dear.
        w = World(((), ()), ((("a", ((0, 9), (1, 1))),), (("a", ((1, 1),)),)))
        self.assertEqual(purses(w, Share(0)), [None, None])
        self.assertEqual(Rule(w, ("height", Share(0)))(0, "a"), 0)
        self.assertEqual(Rule(w, ("height", Share(1)))(0, "a"), 1)

    def test_tables(self):
        for seed in range(60):
            dice = random.Random(seed)
            w = random_world(seed)
            table = random_table(dice, w)
            more = {**table, "x": None, (w.size, "a"): 0, (0, "zz"): [], None: True, 3: (1,)}
            rule = Rule(w, more)
            self.assertEqual(more, {**table, "x": None, (w.size, "a"): 0, (0, "zz"): [], None: True, 3: (1,)})
            self.assertEqual(rule.table(), table)
            more.clear()
            told = kept(rule.table)
            self.assertEqual(told, table)
            self.assertEqual(rule, Rule(w, table))

    def test_kind_of_a_key_is_not_judged(self):
        self.assertEqual(Rule(example(), {(False, "go"): 1, (True, "go"): 0}).table(), TABLE)
        self.assertTrue(all(type(key[0]) is int for key in Rule(example(), {(False, "go"): 1, (True, "go"): 0}).table()))

    def test_wrong_entries(self):
        w = example()
        for value in odd_values():
            if not (type(value) is int and value in (0, 1)):
                self.assertEqual(error_of(Rule, w, {**TABLE, (0, "go"): value}), (BadRule, (0, "go")))
                self.assertEqual(error_of(Rule, w, {(0, "go"): value, (1, "go"): value}), (BadRule, (0, "go")))
            if not (type(value) is int and value == 0):
                self.assertEqual(error_of(Rule, w, {**TABLE, (1, "go"): value}), (BadRule, (1, "go")))
        self.assertEqual(error_of(Rule, w, {}), (BadRule, (0, "go")))
        self.assertEqual(error_of(Rule, w, {(0, "go"): 0}), (BadRule, (1, "go")))
        w = World(((), ()), ((("b", ((0, 0),)), ("c", ((0, 0),))), (("a", ((0, 0),)),)))
        self.assertEqual(error_of(Rule, w, {(1, "a"): 1, (0, "c"): 1}), (BadRule, (0, "b")))
        self.assertEqual(error_of(Rule, w, {(1, "a"): 1, (0, "b"): 0}), (BadRule, (0, "c")))
        self.assertEqual(error_of(Rule, w, {(1, "a"): 1, (0, "b"): 0, (0, "c"): 0}), (BadRule, (1, "a")))

    def test_wrong_choices(self):
        w = example()
        wrong = odd_values() + ["First", "height", "last", ("height",), ("height", Share(1), 1), ("first", Share(1)),
                                ["height", Share(1)], ("Height", Share(1)), (Share(1), "height"), ("first",)]
        for value in wrong:
            what = (int((0, "go") in value), "go") if is_dict(value) else None
            self.assertEqual(error_of(Rule, w, value), (BadRule, what))
        for value in odd_values() + [Share(-1), {"go": 1}]:
            right = is_right_income(w)(value)
            self.assertEqual(error_of(Rule, w, ("height", value)), None if right else (BadRule, None))
        self.assertIsNone(error_of(Rule, w, ("height", {"go": Share(1), "x": 0})))

    def test_calls(self):
        w = World(((), (0,)), ((("a", ((0, 2),)), ("go", ((0, 1), (1, 0)))), (("go", ((0, 3),)),)))
        rule = Rule(w, "first")
        for value in odd_values():
            told = error_of(rule, value, "go")
            self.assertEqual(told, None if type(value) is int and value in (0, 1) else (NoStanding, value))
            told = error_of(rule, 1, value)
            self.assertEqual(told, None if value == "go" else (NoAsk, value))
            if not (type(value) is int and value in (0, 1)):
                self.assertEqual(error_of(rule, value, None), (NoStanding, value))
        self.assertEqual(error_of(rule, 1, "a"), (NoAsk, "a"))
        self.assertEqual(rule(name="a", standing=0), 0)
        self.assertIs(type(rule(0, "a")), int)

    def test_equal_rules(self):
        w = example()
        self.assertEqual(Rule(w, "cheapest"), Rule(w, TABLE))
        self.assertEqual(Rule(example(), "first"), Rule(w, "first"))
        self.assertNotEqual(Rule(w, "cheapest"), Rule(w, "first"))
        self.assertNotEqual(Rule(w, "first"), Rule(w.with_start(1), "first"))
        self.assertNotEqual(Rule(w, "first"), Rule(w.with_price(0, "go", 1, 9), "first"))
        for value in odd_values() + [TABLE]:
            self.assertIs(Rule(w, "first") == value, False)
        self.assertIs(Rule(w, "first") == Rule(w, "first"), True)


class RuleWorldTest(unittest.TestCase):
    def test_worlds(self):
        for seed in range(80):
            dice = random.Random(seed)
            w = random_world(seed)
            table = random_table(dice, w)
            told = rule_world(Rule(w, table))
            self.assertEqual([told.turns, told.start, told.size], [w.turns, w.start, w.size])
            for standing in range(w.size):
                self.assertEqual(told.asked(standing), w.asked(standing))
                for name in w.asked(standing):
                    goal = table[(standing, name)]
                    self.assertEqual(told.answers(standing, name), [(goal, w.price(standing, name, goal))])

    def test_facts(self):
        for seed in range(100):
            dice = random.Random(seed)
            w = random_world(seed)
            income = mean(w) if seed % 2 else random_income(dice, w)
            for choice in ("first", "cheapest", random_table(dice, w), ("height", income)):
                told = rule_world(Rule(w, choice))
                self.assertFalse(mean(told).below(mean(w)))
                self.assertTrue(all(a >= b for a, b in zip(worths(told, 10), worths(w, 10))))
                for dear, least in zip(purses(told, income), purses(w, income)):
                    self.assertTrue(dear is None or least is not None and dear >= least)
            self.assertEqual(purses(told, income), purses(w, income))


class BreakingTest(unittest.TestCase):
    def check(self, rule, income, then, start):
        world = rule.world
        told = kept(breaking, rule, income, then, start=start)
        least = purse(rule_world(rule), income, start=start)
        if least is not None and then >= least:
            self.assertIsNone(told)
            return None
        self.assertIs(type(told), list)
        parts, gains = grains(world, income)
        standing, rest = start, then
        for k, (there, name) in enumerate(told):
            self.assertIn(there, world.by_turns(standing))
            goal = rule(there, name)
            rest += gains[name] - parts * world.price(there, name, goal)
            self.assertEqual(rest < 0, k == len(told) - 1)
            standing = goal
        return len(told)

    def test_shortest_rows(self):
        lengths = set()
        for seed in range(120):
            dice = random.Random(seed)
            w = random_world(seed)
            income = mean(w) if seed % 2 else random_income(dice, w)
            choice = dice.choice(["first", "cheapest", random_table(dice, w), ("height", income)])
            rule = Rule(w, choice)
            start = dice.randrange(w.size)
            least = purse(rule_world(rule), income, start=start)
            for then in sorted({0, 1, 2, 3, 7, (least or 1) - 1, least or 0, (least or 0) + 1}):
                told = self.check(rule, income, then, start)
                lengths.add(told)
                # Longer rows than these are not searched for.
                within = told if told is not None and told <= 9 else None
                self.assertEqual(shortest_breaking(rule, income, then, start, 9), within)
        self.assertIn(None, lengths)
        self.assertGreater(len(lengths), 6)

    def test_long_rows(self):
        rule = Rule(example(), "first")
        for then in (0, 1, 2, 10, 9999):
            self.assertEqual(breaking(rule, HALF, then), [(0, "go")] * (then + 1))
        self.assertEqual(len(breaking(rule, Share(1), 10 ** 6)), 10 ** 6 + 1)
        ring = Rule(loop_world(*[1] * 399 + [2]), "first")
        self.assertEqual(breaking(ring, Share(1), 0), [(k, "a") for k in range(400)])
        self.assertEqual(len(breaking(ring, Share(1), 5)), 400 * 6)
        self.assertEqual(breaking(ring, Share(401, 400), 398, start=399), [(399, "a")])
        self.assertIsNone(breaking(ring, Share(401, 400), 399, start=399))

    def test_detours(self):
        # The short way around costs less each time; the long way is dearer, and breaks first.
        asks = ((("a", ((0, 2),)), ("b", ((1, 1),))), (("a", ((2, 1),)),), (("a", ((0, 12),)),))
        rule = Rule(World(((), (), ()), asks), "first")
        self.assertEqual([len(breaking(rule, Share(1), then)) for then in (0, 1, 2, 3, 11, 12)], [1, 2, 3, 3, 4, 5])
        # Turns cost nothing.
        rule = Rule(World(((1,), (2,), ()), ((), (), (("a", ((0, 3),)),))), "first")
        self.assertEqual(breaking(rule, Share(2), 2), [(2, "a")] * 3)

    def test_great_prices(self):
        rule = Rule(example().scaled(10 ** 20), "first")
        self.assertEqual(breaking(rule, Share(2 * 10 ** 20 - 1), 10 ** 3), [(0, "go")] * 1001)
        self.assertEqual(breaking(rule, Share(1, 10 ** 20), 10 ** 6), [(0, "go")])

    def test_wrong_inputs(self):
        rule = Rule(example(), "first")
        w = rule.world
        check_errors(self, breaking, {"rule": rule, "income": HALF, "purse": 3, "start": 1}, [
            ("income", is_right_income(w), BadIncome), ("purse", is_count(0, 10 ** 6), BadCount),
            ("start", is_start(w), NoStanding)])
        self.assertEqual(error_of(breaking, rule, HALF, 10 ** 6 + 1), (BadCount, 10 ** 6 + 1))
        self.assertEqual(grain(rule_world(rule), HALF), 2)
        self.assertEqual(breaking(rule, HALF, 5, start=None), breaking(rule, HALF, 5, start=0))


class FollowsTest(unittest.TestCase):
    def test_tables(self):
        for seed in range(80):
            dice = random.Random(seed)
            w = random_world(seed)
            table = random_table(dice, w)
            rule = Rule(w, table)
            part = {key: table[key] for key in table if dice.random() < 0.6}
            self.assertIs(kept(follows, rule, part), True)
            self.assertIs(follows(rule, {}), True)
            self.assertIs(follows(rule, {**part, "x": 1, (w.size, "a"): None, None: []}), True)
            other = random_table(dice, w)
            self.assertIs(follows(rule, other), other == table)
            for key in table:
                for value in odd_values():
                    same = type(value) is int and value == table[key]
                    self.assertIs(follows(rule, {**part, key: value}), same)

    def test_keeper_papers(self):
        for seed in range(60):
            w = random_world(seed)
            table = keeper_paper(w, mean(w))[1]
            rest = Rule(w, "first").table()
            self.assertIs(follows(Rule(w, {**rest, **table}), table), True)

    def test_kind_of_a_key_is_not_judged(self):
        rule = Rule(example(), TABLE)
        self.assertIs(follows(rule, {(True, "go"): 0}), True)
        self.assertIs(follows(rule, {(False, "go"): 0}), False)
        self.assertIs(follows(rule, {(True, "go"): False}), False)

    def test_wrong_tables(self):
        check_errors(self, follows, {"rule": Rule(example(), TABLE), "table": TABLE}, [("table", is_dict, BadTable)])


if __name__ == "__main__":
    unittest.main()
