"""[21], [23]: the judges of certificates, fault by fault."""

import copy
import random
import unittest

from neverowing.errors import BadCount, BadIncome, NoStanding
from neverowing.papers import foe_fault, foe_paper, keeper_fault, keeper_paper
from neverowing.purses import purse
from neverowing.shares import Share
from neverowing.worlds import World
from tests.helpers import (check_errors, error_of, example, is_plain_integer, is_right_income, is_start, kept,
                           odd_values, random_income, random_world)
from tests.reference import foe_faults, keeper_faults

HALF = Share(3, 2)
TABLE = {(0, "go"): 1, (1, "go"): 0}
MOVES = {0: (0, "go"), 1: (1, "go")}


def no_integers():
    return [value for value in odd_values() if not is_plain_integer(value)]


def branching():
    """Standing 0 turns to 2 and 1 and asks a and b; with the income 1 nothing has to be kept."""
    return World(((1, 2), (), (), ()), (
        (("a", ((0, 1), (3, 5))), ("b", ((3, 1),))),
        (("a", ((1, 1),)),), (("a", ((2, 1),)),), (("a", ((3, 1),)), ("c", ((2, 0),)))))


FLAT = {0: 0, 1: 0, 2: 0, 3: 0}
WAYS = {(0, "a"): 0, (0, "b"): 3, (1, "a"): 1, (2, "a"): 2, (3, "a"): 3, (3, "c"): 2}


def changed(table, **more):
    """A copy of the table; a key k1 stands for 1."""
    return {**table, **{int(key[1:]): value for key, value in more.items()}}


def without(table, key):
    return {k: table[k] for k in table if k != key}


class KeeperFaultTest(unittest.TestCase):
    def judge(self, heights, table, least=0, start=None):
        return keeper_fault(branching(), Share(1), least, heights, table, start=start)

    def test_example(self):
        w = example()
        self.assertIsNone(keeper_fault(w, HALF, 0, {0: 0, 1: 3}, TABLE))
        self.assertEqual(keeper_fault(w, HALF, 0, {0: 0, 1: 4}, TABLE), ("step", 0, "go"))

    def test_no_fault(self):
        self.assertIsNone(self.judge(FLAT, WAYS))
        self.assertIsNone(self.judge({k: 10 ** 30 for k in range(4)}, WAYS, 10 ** 30))

    def test_lacks(self):
        # The walk from 0 is 0, 1, 2, 3.
        for standing in range(4):
            self.assertEqual(self.judge(without(FLAT, standing), WAYS), ("lacks", standing))
            for value in no_integers() + [-1, -10 ** 30]:
                self.assertEqual(self.judge({**FLAT, standing: value}, WAYS), ("lacks", standing))

    def test_begin(self):
        for least in (-10 ** 30, -1):
            self.assertEqual(self.judge(FLAT, WAYS, least), ("begin",))
        self.assertEqual(self.judge(changed(FLAT, k0=1), WAYS), ("begin",))
        self.assertIsNone(self.judge(changed(FLAT, k0=1), WAYS, 1))

    def test_begin_at_the_start_alone(self):
        heights = {2: 0, 3: 7}
        self.assertEqual(self.judge(heights, WAYS, start=3), ("begin",))
        self.assertEqual(self.judge(heights, WAYS, 6, start=3), ("begin",))
        self.assertIsNone(self.judge(heights, WAYS, 7, start=3))

    def test_turn(self):
        self.assertEqual(self.judge(changed(FLAT, k1=1), WAYS), ("turn", 0, 1))
        self.assertEqual(self.judge(changed(FLAT, k2=1), WAYS), ("turn", 0, 2))
        self.assertEqual(self.judge(changed(FLAT, k1=1, k2=1), WAYS), ("turn", 0, 1))
        # A height that is no integer, or is below 0, is a fault of its own standing.
        self.assertEqual(self.judge(changed(FLAT, k1=True, k2=1), WAYS), ("turn", 0, 2))
        self.assertEqual(self.judge(changed(FLAT, k1=-1), WAYS), ("lacks", 1))

    def test_answer(self):
        for key in WAYS:
            self.assertEqual(self.judge(FLAT, without(WAYS, key)), ("answer",) + key)
        for value in no_integers() + [1, 2, -1, 4, 10 ** 30]:
            self.assertEqual(self.judge(FLAT, {**WAYS, (0, "a"): value}), ("answer", 0, "a"))
            self.assertEqual(self.judge(FLAT, {**WAYS, (0, "a"): value, (0, "b"): value}), ("answer", 0, "a"))

    def test_flag_is_no_entry(self):
        world = World(((), ()), ((("a", ((0, 0), (1, 0))),), (("a", ((1, 0),)),)))
        self.assertEqual(keeper_fault(world, Share(0), 0, {0: 0}, {(0, "a"): False}), ("answer", 0, "a"))
        self.assertEqual(keeper_fault(world, Share(0), 0, {0: 0, 1: 0}, {(0, "a"): True}), ("answer", 0, "a"))
        self.assertIsNone(keeper_fault(world, Share(0), 0, {0: 0}, {(0, "a"): 0}))

    def test_step(self):
        self.assertEqual(self.judge(FLAT, {**WAYS, (0, "a"): 3}), ("step", 0, "a"))
        self.assertEqual(self.judge(changed(FLAT, k3=1), WAYS), ("step", 0, "b"))
        # A height below 0 at the next standing is reckoned with, and found there.
        self.assertEqual(self.judge(changed(FLAT, k3=-4), {**WAYS, (0, "a"): 3}), ("lacks", 3))
        self.assertEqual(self.judge(changed(FLAT, k3=-3), {**WAYS, (0, "a"): 3}), ("step", 0, "a"))
        self.assertEqual(self.judge(changed(FLAT, k3=None), {**WAYS, (0, "a"): 3}), ("lacks", 3))

    def test_order_at_a_standing(self):
        heights = {0: 1, 1: 2, 2: 0, 3: 9}
        table = without(WAYS, (0, "a"))
        self.assertEqual(self.judge({}, table), ("lacks", 0))
        self.assertEqual(self.judge(heights, table), ("begin",))
        self.assertEqual(self.judge(heights, table, 1), ("turn", 0, 1))
        heights[1] = 1
        self.assertEqual(self.judge(heights, table, 1), ("answer", 0, "a"))
        self.assertEqual(self.judge(heights, WAYS, 1), ("step", 0, "b"))
        self.assertEqual(self.judge(heights, {**WAYS, (0, "a"): 3}, 1), ("step", 0, "a"))

    def test_order_of_the_walk(self):
        # Turns come before answers, and a listed standing is not listed again.
        self.assertEqual(self.judge({0: 0}, WAYS), ("lacks", 1))
        self.assertEqual(self.judge({0: 0, 1: 0}, WAYS), ("lacks", 2))
        self.assertEqual(self.judge({0: 0, 1: 0, 2: 0}, WAYS), ("lacks", 3))
        # A valid entry leads on even behind an ask that lacks one.
        self.assertEqual(self.judge({3: 0, 2: 0}, without(WAYS, (2, "a")), start=3), ("answer", 2, "a"))
        world = World(((), (), ()), ((("a", ((2, 0),)), ("b", ((1, 0),))), (("a", ((1, 0),)),), (("a", ((2, 0),)),)))
        self.assertEqual(keeper_fault(world, Share(0), 0, {0: 0}, {(0, "a"): 2, (0, "b"): 1}), ("lacks", 2))

    def test_further_keys(self):
        heights = {**FLAT, 4: -1, "x": None, None: 3, (0,): True, 10 ** 30: 1}
        table = {**WAYS, (0, "x"): 9, "a": [], None: None, (4, "a"): True, 0: 0}
        self.assertIsNone(self.judge(heights, table))
        self.assertIsNone(self.judge({2: 0, 3: 0, 0: -1, 1: "x"}, WAYS, start=3))

    def test_kind_of_a_key_is_not_judged(self):
        self.assertIsNone(self.judge({False: 0, True: 0, 2: 0, 3: 0}, WAYS))
        self.assertIsNone(self.judge(FLAT, {**without(WAYS, (1, "a")), (True, "a"): 1}))

    def test_form(self):
        for value in odd_values():
            if not isinstance(value, dict):
                self.assertEqual(self.judge(value, WAYS), ("form",))
                self.assertEqual(self.judge(FLAT, value), ("form",))
                self.assertEqual(self.judge(value, value, -1), ("form",))
        self.assertEqual(self.judge({}, {}), ("lacks", 0))

    def test_against_the_reference(self):
        seen = set()
        for seed in range(250):
            dice = random.Random(seed)
            w = random_world(seed)
            income = random_income(dice, w)
            start = dice.randrange(w.size)
            heights, table = keeper_paper(w, income, start=start) or ({}, {})
            least = purse(w, income, start=start) or 0
            for _ in range(20):
                two = [spoilt(dice, part, w) for part in (heights, table)]
                wanted = (keeper_faults(w, income, least, two[0], two[1], start) + [None])[0]
                told = kept(keeper_fault, w, income, least, two[0], two[1], start=start)
                self.assertEqual(told, wanted)
                seen.add(told and told[0])
        self.assertEqual(seen, {None, "lacks", "begin", "turn", "answer", "step"})

    def test_wrong_inputs(self):
        w = example()
        right = {"world": w, "income": HALF, "purse": 0, "heights": {0: 0, 1: 3}, "table": TABLE, "start": 0}
        check_errors(self, keeper_fault, right, [
            ("income", is_right_income(w), BadIncome), ("purse", is_plain_integer, BadCount),
            ("start", is_start(w), NoStanding)])
        self.assertEqual(error_of(keeper_fault, w, HALF, 0, None, None, start=2), (NoStanding, 2))

    def test_kinds(self):
        w = example()
        told = keeper_fault(w, HALF, 0, {0: 0, 1: 4}, TABLE)
        self.assertEqual([type(part) for part in told], [str, int, str])
        told = keeper_fault(branching(), Share(1), 0, changed(FLAT, k1=1), WAYS)
        self.assertEqual([type(part) for part in told], [str, int, int])


def spoilt(dice, table, world):
    """A copy of a certificate's dict with some entries left out or changed."""
    table = copy.deepcopy(table)
    for _ in range(dice.choice((0, 0, 1, 1, 2))):
        key = dice.choice(list(table)) if table and dice.random() < 0.8 else dice.randrange(world.size)
        way = dice.randrange(8)
        if way == 0:
            table.pop(key, None)
        elif way == 1:
            table[key] = dice.choice(odd_values())
        elif way in (2, 3) and is_plain_integer(table.get(key)):
            table[key] += 1
        elif way in (4, 5) and is_plain_integer(table.get(key)):
            table[key] -= 1
        elif way == 6:
            table[key] = dice.randrange(world.size)
        else:
            table[key] = (dice.randrange(world.size), dice.choice(world.names()))
    return table


def chain():
    """With the income 0 the foe wrings more and more out of the keeper, from 0 by a turn to 2."""
    return World(((2,), (), ()), (
        (("a", ((0, 0), (1, 1))),), (("a", ((1, 1), (2, 0))), ("b", ((1, 1),))), (("a", ((0, 4), (1, 1))),)))


class FoeFaultTest(unittest.TestCase):
    def judge(self, lows, ranks, moves, least=1, start=None):
        return foe_fault(chain(), Share(0), least, lows, ranks, moves, start=start)

    def right(self):
        """From 0 the foe turns to 2, and asks there what costs 4 or leads to 1, which costs 1 each time."""
        return {0: 5, 1: 6, 2: 5}, {0: 1, 1: 0, 2: 0}, {0: (2, "a"), 1: (1, "b"), 2: (2, "a")}

    def test_example(self):
        w = example()
        self.assertIsNone(foe_fault(w, Share(1), 1, {0: 1, 1: 2}, {0: 1, 1: 0}, MOVES))
        self.assertEqual(foe_fault(w, Share(1), 1, {0: 1, 1: 2}, {0: 0, 1: 0}, MOVES), ("step", 0, 1))

    def test_no_fault(self):
        lows, ranks, moves = self.right()
        self.assertIsNone(self.judge(lows, ranks, moves, 5))
        self.assertIsNone(self.judge(lows, ranks, moves, -10 ** 30))

    def test_lacks(self):
        lows, ranks, moves = self.right()
        for standing in range(2):
            self.assertEqual(self.judge(without(lows, standing), ranks, moves), ("lacks", standing))
            for value in no_integers():
                self.assertEqual(self.judge({**lows, standing: value}, ranks, moves), ("lacks", standing))
        # Standing 2 is not come to: a turn alone does not list it.
        self.assertIsNone(self.judge(without(lows, 2), ranks, moves))
        self.assertEqual(self.judge({}, {}, {}), ("lacks", 0))

    def test_begin(self):
        lows, ranks, moves = self.right()
        self.assertEqual(self.judge(lows, ranks, moves, 6), ("begin",))
        self.assertIsNone(self.judge({0: 0}, {}, {}, 0))
        self.assertIsNone(self.judge({0: -3}, {}, {}, -3))
        self.assertEqual(self.judge({0: -3}, {}, {}, -2), ("begin",))
        self.assertEqual(self.judge({0: 0}, {}, {}, 1), ("begin",))
        # Only the low of the start is compared.
        self.assertIsNone(self.judge(lows, ranks, moves, 6, start=1))

    def test_rank(self):
        lows, ranks, moves = self.right()
        for standing in range(2):
            self.assertEqual(self.judge(lows, without(ranks, standing), moves), ("rank", standing))
            for value in no_integers() + [-1]:
                self.assertEqual(self.judge(lows, {**ranks, standing: value}, moves), ("rank", standing))
        self.assertIsNone(self.judge(lows, without(ranks, 2), moves))
        self.assertIsNone(self.judge({0: 0}, {0: None}, {0: None}, 0))

    def test_move(self):
        lows, ranks, moves = self.right()
        self.assertEqual(self.judge(lows, ranks, without(moves, 0)), ("move", 0))
        wrong = odd_values() + [(2, "b"), (2, ""), (2, 0), (2, None), (2, ["a"]), (3, "a"), (-1, "a"), ("2", "a"),
                                (1, "a"), (2,), (2, "a", 0), [2, "a"], (None, "a"), (True, "b"), (False, "a"),
                                ((2,), "a"), ([2], "a"), (Share(2), "a"), (2, Share(1)), (2, example())]
        for value in wrong:
            self.assertEqual(self.judge(lows, ranks, {**moves, 0: value}), ("move", 0))
        # From 1 no turn leads to 0 or 2, and True is not 1.
        for value in ((0, "a"), (2, "a"), (True, "a"), (1, "c")):
            self.assertEqual(self.judge(lows, ranks, {**moves, 1: value}), ("move", 1))
        # Standing 0 comes to itself by turns.
        self.assertEqual(self.judge(lows, ranks, {**moves, 0: (0, "a")}), ("step", 0, 0))
        self.assertIsNone(self.judge(lows, ranks, {**moves, 1: (1, "b")}))

    def test_step_that_is_too_little(self):
        lows, ranks, moves = self.right()
        # From 0 the foe asks at 2: 4 + low of 0, 1 + low of 1.
        self.assertIsNone(self.judge({**lows, 0: 7, 1: 7}, ranks, moves))
        self.assertEqual(self.judge({**lows, 0: 9, 1: 7}, ranks, moves), ("step", 0, 1))
        # A low below 0 counts as 0.
        self.assertIsNone(self.judge({0: 1, 1: -5}, ranks, moves))
        self.assertEqual(self.judge({0: 2, 1: -5}, ranks, moves), ("step", 0, 1))
        # A low that is no integer is a fault of its own standing.
        self.assertEqual(self.judge({0: 2, 1: None}, ranks, moves), ("lacks", 1))
        self.assertEqual(self.judge({0: 2, 1: True}, ranks, moves), ("lacks", 1))

    def test_equal_steps(self):
        lows, ranks, moves = {0: 7, 1: 6}, {0: 1, 1: 0}, {0: (2, "a"), 1: (1, "b")}
        self.assertIsNone(self.judge(lows, ranks, moves))
        for rank in (1, 2, 10 ** 30):
            self.assertEqual(self.judge(lows, {0: 1, 1: rank}, moves), ("step", 0, 1))
        # A rank that is no integer from 0 on is a fault of its own standing.
        for rank in (None, True, -1, "1"):
            self.assertEqual(self.judge(lows, {0: 1, 1: rank}, moves), ("rank", 1))
        # Where the low ahead is not above 0, ranks mean nothing.
        self.assertIsNone(self.judge({0: 1, 1: 0}, {0: 0, 1: 5}, moves))
        self.assertIsNone(self.judge({0: 1, 1: -1}, {0: 0, 1: 5}, moves))

    def test_equal_step_that_stays(self):
        world = World(((),), ((("a", ((0, 0),)),),))
        self.assertEqual(foe_fault(world, Share(0), 1, {0: 1}, {0: 3}, {0: (0, "a")}), ("step", 0, 0))
        self.assertIsNone(foe_fault(world.with_price(0, "a", 0, 1), Share(0), 1, {0: 1}, {0: 3}, {0: (0, "a")}))

    def test_order_at_a_standing(self):
        moves = {0: (2, "b"), 1: (1, "b")}
        self.assertEqual(self.judge({0: None, 1: 0}, {}, moves, 10), ("lacks", 0))
        self.assertEqual(self.judge({0: 9, 1: 0}, {}, moves, 10), ("begin",))
        self.assertEqual(self.judge({0: 9, 1: 0}, {}, moves), ("rank", 0))
        self.assertEqual(self.judge({0: 9, 1: 0}, {0: 0}, moves), ("move", 0))
        self.assertEqual(self.judge({0: 99, 1: 0}, {0: 0}, {0: (2, "a")}), ("step", 0, 1))
        # Both answers are too little: the least next standing comes first.
        self.assertEqual(self.judge({0: 99, 1: 0}, {0: 0}, {0: (0, "a")}), ("step", 0, 0))

    def test_order_of_the_walk(self):
        # 2 is listed behind 1, from which its answers lead.
        moves = {0: (0, "a"), 1: (1, "a")}
        self.assertEqual(self.judge({0: 1, 1: 1}, {0: 5, 1: 1}, moves), ("step", 0, 0))
        self.assertEqual(self.judge({1: 1}, {1: 1}, moves, start=1), ("lacks", 2))
        self.assertEqual(self.judge({1: 1, 2: 0}, {1: 1}, moves, start=1), ("step", 1, 2))
        self.assertEqual(self.judge({1: 1, 2: 1}, {1: 1, 2: 0}, {**moves, 2: (2, "a")}, start=1), ("lacks", 0))
        # No low above 0, no valid move: nothing is listed from there.
        self.assertIsNone(self.judge({0: 0}, {}, {0: (2, "a")}, 0))
        self.assertEqual(self.judge({0: 1}, {0: 0}, {0: (2, "x")}, 0), ("move", 0))

    def test_further_keys(self):
        lows, ranks, moves = self.right()
        more = {7: None, "x": 1, None: None, (1, 2): [], 10 ** 30: 5}
        self.assertIsNone(self.judge({**lows, **more}, {**ranks, **more}, {**moves, **more}))

    def test_kind_of_a_key_is_not_judged(self):
        lows, ranks, moves = self.right()
        flags = {0: False, 1: True, 2: 2}
        turned = [{flags[key]: table[key] for key in table} for table in (lows, ranks, moves)]
        self.assertIsNone(self.judge(*turned))

    def test_form(self):
        lows, ranks, moves = self.right()
        for value in odd_values():
            if not isinstance(value, dict):
                for told in (self.judge(value, ranks, moves), self.judge(lows, value, moves),
                             self.judge(lows, ranks, value), self.judge(value, value, value, 9)):
                    self.assertEqual(told, ("form",))

    def test_against_the_reference(self):
        seen = set()
        for seed in range(300):
            dice = random.Random(seed)
            w = random_world(seed)
            income = random_income(dice, w)
            start = dice.randrange(w.size)
            least = purse(w, income, start=start)
            least = 5 if least is None else least
            paper = foe_paper(w, income, least, start=start)
            for _ in range(20):
                three = [spoilt(dice, part, w) for part in paper]
                wanted = (foe_faults(w, income, least, *three, start) + [None])[0]
                told = kept(foe_fault, w, income, least, *three, start=start)
                self.assertEqual(told, wanted)
                seen.add(told and told[0])
        self.assertEqual(seen, {None, "lacks", "begin", "rank", "move", "step"})

    def test_wrong_inputs(self):
        w = example()
        right = {"world": w, "income": Share(1), "least": 1, "lows": {0: 1, 1: 2}, "ranks": {0: 1, 1: 0},
                 "moves": MOVES, "start": 0}
        check_errors(self, foe_fault, right, [
            ("income", is_right_income(w), BadIncome), ("least", is_plain_integer, BadCount),
            ("start", is_start(w), NoStanding)])
        self.assertEqual(error_of(foe_fault, w, HALF, 0, None, None, None, start=2), (NoStanding, 2))

    def test_kinds(self):
        w = example()
        told = foe_fault(w, Share(1), 1, {0: 1, 1: 2}, {0: 0, 1: 0}, MOVES)
        self.assertEqual([type(part) for part in told], [str, int, int])


if __name__ == "__main__":
    unittest.main()
