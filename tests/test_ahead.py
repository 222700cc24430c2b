"""[46], [47]: asks that are known ahead."""

import random
import unittest

from neverowing.ahead import best_plan, frugal_plan, least_purse, least_total, plan_fault
from neverowing.errors import BadIncome, BadRow, NoStanding
from neverowing.purses import purse_for
from neverowing.shares import Share
from neverowing.worlds import World
from neverowing.worths import worths
from tests.helpers import (error_of, example, is_plain_integer, is_right_income, is_right_name, is_start, kept,
                           loop_world, odd_values, random_answers, random_income, random_world, small_world)
from tests.reference import grains

HALF = Share(3, 2)
NAMES = ["a", "b", "go", "stay", "zz"]


def all_plans(world, row, start):
    """All plans: pairs of the plan and the list of the prices, None where an ask falls."""
    found = [([], [], start)]
    for name in row:
        rows = []
        for plan, prices, at in found:
            answers = dict(world.asks[at]).get(name, [(None, None)])
            rows += [(plan + [goal], prices + [price], at if goal is None else goal) for goal, price in answers]
        found = rows
    return [(plan, prices) for plan, prices, _ in found]


def fallen(prices):
    return prices.count(None)


def total(prices):
    return sum(price for price in prices if price is not None)


def need(world, row, income, prices):
    """The least purse with which a plan never owes."""
    grain, gains = grains(world, income)
    rest, least = 0, 0
    for name, price in zip(row, prices):
        if price is not None:
            rest += gains[name] - grain * price
            least = max(least, -rest)
    return least


def frugal(world, row, income, start):
    """The least purse of the plans in which least asks fall, by a look at all plans."""
    plans = all_plans(world, row, start)
    least = min(fallen(prices) for _, prices in plans)
    return min(need(world, row, income, prices) for _, prices in plans if fallen(prices) == least)


def first_fault(world, row, plan, start):
    """plan_fault, word by word."""
    if type(plan) is not list or len(plan) != len(row):
        return ("form",)
    at = start
    for index, name in enumerate(row):
        goals = [goal for goal, _ in dict(world.asks[at]).get(name, [])]
        if goals and not (is_plain_integer(plan[index]) and plan[index] in goals):
            return ("step", index)
        if not goals and plan[index] is not None:
            return ("step", index)
        at = plan[index] if goals else at
    return None


def prices_along(world, row, plan, start):
    at = start
    prices = []
    for name, goal in zip(row, plan):
        prices.append(None if goal is None else dict(dict(world.asks[at])[name])[goal])
        at = at if goal is None else goal
    return prices


def row_fault(value):
    """What BadRow tells, None for a row."""
    if type(value) is not list or len(value) > 60:
        return -1
    return next((index for index, name in enumerate(value) if not is_right_name(name)), None)


def trials(most):
    """Worlds, rows and starts."""
    for seed in range(most):
        dice = random.Random(seed)
        world = small_world(dice) if seed % 2 else random_world(seed)
        row = [dice.choice(NAMES[:2] if seed % 2 else NAMES) for _ in range(dice.randint(0, 5 if seed % 2 else 4))]
        yield dice, world, row, dice.choice([None, dice.randrange(world.size)])


def begin(world, start):
    return world.start if start is None else start


class AheadTest(unittest.TestCase):
    def test_example(self):
        w = example()
        self.assertEqual([least_total(w, ["go", "go"]), best_plan(w, ["go", "go"]), least_total(w, ["stay", "go"])],
                         [(0, 2), [0, 1], (1, 0)])

    def test_totals_against_all_plans(self):
        met = set()
        for _, world, row, start in trials(500):
            plans = all_plans(world, row, begin(world, start))
            wanted = min((fallen(prices), total(prices)) for _, prices in plans)
            told = kept(least_total, world, row, start=start)
            self.assertEqual(told, wanted)
            plan = kept(best_plan, world, row, start=start)
            prices = prices_along(world, row, plan, begin(world, start))
            self.assertEqual((fallen(prices), total(prices)), wanted)
            self.assertIn((plan, prices), plans)
            self.assertIsNone(plan_fault(world, row, plan, start=start))
            met.add(wanted[0] > 0)
        self.assertEqual(met, {True, False})

    def test_purses_against_all_plans(self):
        for dice, world, row, start in trials(500):
            income = random_income(dice, world)
            wanted = frugal(world, row, income, begin(world, start))
            self.assertEqual(kept(least_purse, world, row, income, start=start), wanted)
            plan = kept(frugal_plan, world, row, income, start=start)
            prices = prices_along(world, row, plan, begin(world, start))
            self.assertEqual(need(world, row, income, prices), wanted)
            self.assertEqual(fallen(prices), least_total(world, row, start=start)[0])
            self.assertIsNone(plan_fault(world, row, plan, start=start))

    def test_least_asks_fall_first(self):
        # To stay cheap means to let the second ask fall.
        w = World(((), ()), ((("a", ((0, 0), (1, 50))),), (("b", ((1, 7),)),)))
        self.assertEqual([least_total(w, ["a", "b"]), best_plan(w, ["a", "b"])], [(0, 57), [1, 1]])
        self.assertEqual([least_purse(w, ["a", "b"], Share(5)), frugal_plan(w, ["a", "b"], Share(5))], [47, [1, 1]])
        self.assertEqual([least_total(w, ["a", "a"]), best_plan(w, ["a", "a"])], [(0, 0), [0, 0]])
        self.assertEqual(least_total(w, ["b", "a", "b"]), (1, 57))
        self.assertEqual(best_plan(w, ["b", "a", "b"]), [None, 1, 1])

    def test_nothing_comes_in_where_an_ask_falls(self):
        w = World(((),), ((("b", ((0, 3),)),),))
        self.assertEqual(least_purse(w, ["a", "a", "b"], Share(1)), 2)
        self.assertEqual(frugal_plan(w, ["a", "a", "b"], Share(1)), [None, None, 0])
        # What is left over counts for the asks behind, and what is owed must be there before.
        w = loop_world(0, 4, 1)
        self.assertEqual([least_purse(w, ["a"] * many, Share(1)) for many in (0, 1, 2, 3, 6)], [0, 0, 2, 2, 4])
        self.assertEqual(least_purse(w, ["a"] * 2, Share(1, 3)), 10)
        self.assertEqual(least_purse(w, ["a"] * 2, {"a": Share(1, 3)}), 10)

    def test_no_turns(self):
        w = World(((1,), ()), ((("a", ((0, 0),)),), (("b", ((1, 0),)),)))
        self.assertEqual(least_total(w, ["b", "a"]), (1, 0))
        self.assertEqual(best_plan(w, ["b", "a"]), [None, 0])

    def test_empty_row(self):
        for seed in range(10):
            world = random_world(seed)
            for start in range(world.size):
                self.assertEqual([least_total(world, [], start=start), best_plan(world, [], start=start),
                                  least_purse(world, [], Share(0), start=start),
                                  frugal_plan(world, [], Share(0), start=start)], [(0, 0), [], 0, []])
                self.assertIsNone(plan_fault(world, [], [], start=start))

    def test_plan_faults(self):
        met = set()
        for dice, world, row, start in trials(400):
            plans = [plan for plan, _ in all_plans(world, row, begin(world, start))]
            plan = list(dice.choice(plans))
            trial = [plan, plan + [None], plan[:-1], tuple(plan), [dice.choice([None, 0, 1, 2]) for _ in row]]
            for index in range(len(row)):
                trial += [plan[:index] + [value] + plan[index + 1:]
                          for value in odd_values() + [world.size, -1, 3]]
            for told in trial:
                wanted = first_fault(world, row, told, begin(world, start))
                fault = plan_fault(world, row, told, start=start)
                self.assertEqual(fault, wanted)
                self.assertIs(type(fault), type(None) if wanted is None else tuple)
                met.add(fault and fault[0])
        self.assertEqual(met, {None, "form", "step"})

    def test_flags_in_plans(self):
        w = example()
        self.assertEqual(plan_fault(w, ["go", "go"], [False, 1]), ("step", 0))
        self.assertEqual(plan_fault(w, ["go", "go"], [0, True]), ("step", 1))
        self.assertIsNone(plan_fault(w, ["go", "go"], [0, 1]))
        self.assertEqual(plan_fault(w, ["stay", "go"], [0, 1]), ("step", 0))
        self.assertEqual(plan_fault(w, ["stay", "go"], [False, 1]), ("step", 0))
        self.assertIsNone(plan_fault(w, ["stay", "go"], [None, 1]))
        self.assertEqual(plan_fault(w, ["go", "stay"], [None, None]), ("step", 0))
        for value in odd_values():
            if type(value) is not list or len(value) != 1:
                self.assertEqual(plan_fault(w, ["go"], value), ("form",))

    def test_facts(self):
        for seed in range(150):
            dice = random.Random(seed)
            size = dice.randint(1, 4)
            turns = tuple(tuple(t for t in range(size) if t != s and dice.random() < 0.3) for s in range(size))
            asks = tuple(tuple((name, random_answers(dice, size)) for name in ("a", "b")) for _ in range(size))
            world = World(turns, asks, start=dice.randrange(size))
            row = [dice.choice("ab") for _ in range(dice.randint(0, 12))]
            lost, least = least_total(world, row)
            self.assertEqual(lost, 0)
            self.assertLessEqual(least, worths(world, len(row))[-1])
            income = random_income(dice, world)
            self.assertLessEqual(least_purse(world, row, income), purse_for(world, income, len(row)))

    def test_long_rows(self):
        for seed in range(40):
            dice = random.Random(seed)
            world = random_world(seed)
            row = [dice.choice(NAMES) for _ in range(60)]
            self.assertEqual(least_total(world, row), forward_total(world, row))
            plan = best_plan(world, row)
            self.assertIsNone(plan_fault(world, row, plan))
            prices = prices_along(world, row, plan, world.start)
            self.assertEqual((fallen(prices), total(prices)), least_total(world, row))
            income = random_income(dice, world)
            least = least_purse(world, row, income)
            self.assertTrue(is_enough(world, row, income, least))
            if least > 0:
                self.assertFalse(is_enough(world, row, income, least - 1))
            plan = frugal_plan(world, row, income)
            self.assertIsNone(plan_fault(world, row, plan))
            prices = prices_along(world, row, plan, world.start)
            self.assertEqual([need(world, row, income, prices), fallen(prices)], [least, least_total(world, row)[0]])

    def test_60_and_61_names(self):
        w = example()
        for many, wanted in ((0, None), (1, None), (60, None), (61, (BadRow, -1)), (500, (BadRow, -1))):
            row = ["go"] * many
            for call, args in self.calls():
                self.assertEqual(error_of(call, w, row, *args), wanted)
                self.assertEqual(error_of(call, w, row + [None], *args),
                                 (BadRow, many) if many < 60 else (BadRow, -1))

    def calls(self):
        return [(plan_fault, ([],)), (least_total, ()), (best_plan, ()), (least_purse, (Share(2),)),
                (frugal_plan, (Share(2),))]

    def test_wrong_rows(self):
        w = example()
        names = odd_values() + ["a" * 12, "a" * 13, "A", "go ", "g\n", "\u00e4", "-", "?", ["go"], ("go",), b"go"]
        rows = odd_values() + [[name] for name in names] + [["go", "stay", name, 7] for name in names]
        rows += [("go",), {"go": 0}, "go"]
        for row in rows:
            fault = row_fault(row)
            for call, args in self.calls():
                told = error_of(call, w, row, *args)
                self.assertEqual(told, None if fault is None else (BadRow, fault))
                if told is not None:
                    self.assertTrue(is_plain_integer(told[1]))

    def test_order_of_errors(self):
        w = example()
        right = {"row": ["go"], "income": Share(2), "start": 0}
        judges = {"row": lambda value: row_fault(value) is None, "income": is_right_income(w), "start": is_start(w)}
        errors = {"row": BadRow, "income": BadIncome, "start": NoStanding}
        dice = random.Random(4)
        for call, names in ((plan_fault, ["row", "start"]), (least_total, ["row", "start"]),
                            (best_plan, ["row", "start"]), (least_purse, ["row", "income", "start"]),
                            (frugal_plan, ["row", "income", "start"])):
            rows = [{name: k} for name in names for k in range(len(odd_values()))]
            rows += [{name: dice.randrange(len(odd_values())) for name in names} for _ in range(200)]
            for trial in rows:
                given = {name: odd_values()[trial[name]] if name in trial else right[name] for name in names}
                first = next((name for name in names if not judges[name](given[name])), None)
                more = {"plan": None} if call == plan_fault else {}
                told = error_of(call, w, **given, **more)
                if first is None:
                    self.assertIsNone(told)
                else:
                    self.assertIs(told[0], errors[first])
                    if first != "row":
                        self.assertIs(told[1], given[first])

    def test_kinds(self):
        w = example()
        row = ["go", "stay"]
        self.assertEqual([type(told) for told in (least_total(w, row), best_plan(w, row), least_purse(w, row, HALF),
                                                  frugal_plan(w, row, HALF))], [tuple, list, int, list])
        self.assertEqual([len(least_total(w, row)), best_plan(w, row)], [2, [1, None]])


def forward_total(world, row):
    """least_total, from the first ask on."""
    best = {world.start: (0, 0)}
    for name in row:
        found = {}
        for at, (lost, paid) in best.items():
            answers = dict(world.asks[at]).get(name)
            rows = [(at, lost + 1, paid)] if answers is None else [(goal, lost, paid + p) for goal, p in answers]
            for goal, many, price in rows:
                found[goal] = min(found.get(goal, (many, price)), (many, price))
        best = found
    return min(best.values())


def is_enough(world, row, income, purse):
    """True if some plan in which least asks fall never owes with the purse."""
    grain, gains = grains(world, income)
    best = {(world.start, 0): purse}
    for name in row:
        found = {}
        for (at, lost), rest in best.items():
            answers = dict(world.asks[at]).get(name)
            rows = [(at, lost + 1, rest)] if answers is None else [
                (goal, lost, rest + gains[name] - grain * price) for goal, price in answers]
            for goal, many, left in rows:
                if left >= 0:
                    found[goal, many] = max(found.get((goal, many), 0), left)
        best = found
    return any(lost == forward_total(world, row)[0] for _, lost in best)


if __name__ == "__main__":
    unittest.main()
