"""[16] to [20]: incomes, least purses and the mean."""

import random
import unittest
from itertools import islice

from neverowing.errors import BadCount, BadIncome, NoAsk, NoStanding
from neverowing.purses import grain, income_at, ladder, mean, purse, purse_for, purses
from neverowing.shares import Share
from neverowing.worlds import World
from neverowing.worths import worths
from tests.helpers import (check_errors, error_of, example, is_count, is_plain_integer, is_right_income, is_start,
                           kept, loop_world, odd_values, random_income, random_share, random_world)
from tests.reference import grains, least_purses, plain_purse_for, risings

BIG = 10 ** 20


def two_names():
    return World(((), ()), ((("a", ((1, 3),)),), (("b", ((0, 5),)), ("c", ((1, 0),)))))


def slow_rise(price):
    """At standing 0 each ask costs one grain, until the keeper buys itself free."""
    return World(((), ()), ((("a", ((0, 1), (1, price))),), (("a", ((1, 0),)),)))


def hub_of_rings(rings, chooser):
    """Rings behind standing 0, between which the foe chooses, by asks or turns, or the keeper."""
    first, asks, firsts = 1, [], []
    for prices in rings:
        firsts.append(first)
        for k, price in enumerate(prices):
            asks.append((("a", ((first + (k + 1) % len(prices), price),)),))
        first += len(prices)
    turns = [()] * first
    hub = ()
    if chooser == "keeper":
        hub = (("a", tuple((goal, 1) for goal in firsts)),)
    elif chooser == "asks":
        hub = tuple(("b" + "abcdefgh"[k], ((goal, 7),)) for k, goal in enumerate(firsts))
    else:
        turns[0] = tuple(firsts)
    return World(tuple(turns), (hub,) + tuple(asks))


class IncomeTest(unittest.TestCase):
    def test_grains(self):
        w = two_names()
        self.assertEqual(grain(w, Share(3, 2)), 2)
        self.assertEqual(grain(w, Share(0)), 1)
        self.assertEqual(grain(w, Share(4, 2)), 1)
        income = {"a": Share(1, 4), "b": Share(5, 6), "c": Share(2)}
        self.assertEqual(grain(w, income), 12)
        self.assertEqual([income_at(w, income, name) for name in "abc"], [3, 10, 24])
        self.assertEqual([income_at(w, Share(7, 3), name) for name in "abc"], [7, 7, 7])

    def test_other_keys_mean_nothing(self):
        w = two_names()
        income = {"a": Share(1, 4), "b": Share(5, 6), "c": Share(2)}
        for key, value in (("d", Share(1, 7)), (0, None), (("a",), Share(-1)), ("A", 3), (None, Share(1, 5))):
            more = dict(income)
            more[key] = value
            self.assertEqual(grain(w, more), 12)
            self.assertEqual(purses(w, more), purses(w, income))

    def test_names_behind_which_nothing_leads(self):
        # All names of the world count, also those that are not come to from the start.
        w = World(((), ()), ((("a", ((0, 1),)),), (("b", ((1, 1),)),)))
        self.assertEqual(grain(w, {"a": Share(1, 2), "b": Share(1, 3)}), 6)
        self.assertEqual(error_of(purse, w, {"a": Share(1)})[0], BadIncome)

    def test_great_numbers(self):
        w = two_names()
        income = {"a": Share(BIG, BIG + 1), "b": Share(1, 10 ** 40), "c": Share(10 ** 50)}
        self.assertEqual(grain(w, income), grains(w, income)[0])
        for name in "abc":
            self.assertEqual(income_at(w, income, name), grains(w, income)[1][name])

    def test_random_incomes(self):
        dice = random.Random(1)
        for seed in range(200):
            w = random_world(seed)
            income = random_income(dice, w)
            parts, gains = grains(w, income)
            self.assertEqual(grain(w, income), parts)
            self.assertEqual({name: income_at(w, income, name) for name in w.names()}, gains)

    def test_what_is_no_income(self):
        w = two_names()
        right = {"a": Share(1), "b": Share(0), "c": Share(1, 2)}
        self.assertIsNone(error_of(grain, w, right))
        wrong = [value for value in odd_values() if not is_right_income(w)(value)]
        self.assertEqual(len(odd_values()) - len(wrong), 3)
        wrong += [Share(-1), Share(-1, 10 ** 30)]
        wrong += [{key: right[key] for key in right if key != name} for name in right]
        wrong += [dict(right, b=value) for value in odd_values() + [Share(-1)]
                  if not isinstance(value, Share) or value.below(0)]
        for value in wrong:
            calls = (lambda: grain(w, value), lambda: income_at(w, value, "a"), lambda: purse(w, value),
                     lambda: purses(w, value), lambda: purse_for(w, value, 3))
            for call in calls:
                error, what = error_of(call)
                self.assertIs(error, BadIncome)
                self.assertIs(what, value)

    def test_wrong_names(self):
        w = two_names()
        for value in odd_values() + ["d", "aa", "A"]:
            self.assertEqual(error_of(income_at, w, Share(1), value)[0], NoAsk)
        income = {"a": Share(1), "b": Share(0), "c": Share(1, 2), "go": Share(1)}
        self.assertEqual(error_of(income_at, w, income, "go"), (NoAsk, "go"))
        self.assertEqual(error_of(income_at, w, 1, "go"), (BadIncome, 1))


class PurseTest(unittest.TestCase):
    def test_example(self):
        w = example()
        half = Share(3, 2)
        self.assertTrue(mean(w) == half)
        self.assertEqual([grain(w, half), purses(w, half), purse(w, Share(1)), purses(w, {"go": Share(2)})],
                         [2, [0, 3], None, [0, 1]])
        self.assertEqual(purses(w, Share(1)), [None, None])
        self.assertEqual([purse_for(w, Share(1), asks) for asks in range(7)], [0, 0, 1, 1, 2, 2, 3][:7])
        self.assertEqual(error_of(purse, w, {}), (BadIncome, {}))

    def test_risings(self):
        dice = random.Random(2)
        endless = 0
        for seed in range(400):
            w = random_world(seed)
            income = random_income(dice, w)
            wanted = least_purses(w, income)
            endless += None in wanted
            self.assertEqual(purses(w, income), wanted)
            self.assertEqual(purse(w, income), wanted[w.start])
            for start in range(w.size):
                self.assertEqual(purse(w, income, start=start), wanted[start])
        self.assertGreater(endless, 100)

    def test_least_purses_meet_the_equation(self):
        # [18], first Fact, on worlds that are too dear for rising grain by grain.
        dice = random.Random(3)
        for seed in range(150):
            w = random_world(seed).scaled(BIG)
            income = {name: Share(dice.randint(0, 5 * BIG), dice.randint(1, 9)) for name in w.names()}
            numbers = purses(w, income)
            parts, gains = grains(w, income)
            for standing in range(w.size):
                needs = []
                for there in w.by_turns(standing):
                    for name in w.asked(there):
                        known = [(goal, price) for goal, price in w.answers(there, name) if numbers[goal] is not None]
                        needs.append(min([max(0, parts * price - gains[name] + numbers[goal])
                                          for goal, price in known], default=None))
                self.assertEqual(numbers[standing], None if None in needs else max(needs))

    def test_scaled_worlds(self):
        dice = random.Random(4)
        for seed in range(100):
            w = random_world(seed)
            share = random_share(dice)
            factor = 12 * BIG + 1
            wanted = [None if number is None else number * factor for number in purses(w, share)]
            self.assertEqual(purses(w.scaled(factor), share * factor), wanted)

    def test_slow_rises(self):
        for price in (1, 7, 250, 999):
            self.assertEqual(purses(slow_rise(price), Share(0)), [price, 0])
            self.assertEqual(purses(slow_rise(price), Share(1, 2)), [2 * price - 1, 0])
            self.assertEqual(purse(slow_rise(price), Share(1)), 0)
            if price > 1:
                self.assertEqual(least_purses(slow_rise(price), Share(1, 2)), [2 * price - 1, 0])
        for asks in (0, 1, 249, 250, 251, 300):
            self.assertEqual(purse_for(slow_rise(250), Share(0), asks), min(asks, 250))
        self.assertEqual(purse(slow_rise(BIG), Share(0)), BIG)
        self.assertEqual(purse(slow_rise(BIG), Share(BIG - 1, BIG)), BIG * BIG - (BIG - 1))

    def test_rises_without_end(self):
        # The purses rise by one grain for each round of a ring, and not at all with a little more.
        world = loop_world(*[1] * 399 + [2])
        self.assertIsNone(purse(world, Share(1)))
        self.assertEqual(purse(world, Share(401, 400)), 0)
        self.assertEqual([purse(world, Share(401, 400), start=k) for k in (1, 7, 398, 399)], [1, 7, 398, 399])
        self.assertIsNone(purse(world, Share(400 * BIG + BIG - 1, 400 * BIG)))
        self.assertEqual(purse(world.scaled(BIG + 1), Share(401 * (BIG + 1), 400), start=399), 399 * (BIG + 1))

    def test_keeper_changes_ways(self):
        # Each of two standings is paid for alone, together they cost nothing.
        world = World(((), ()), ((("a", ((0, 10), (1, 0))),), (("a", ((0, 0), (1, 10))),)))
        self.assertEqual(purses(world, Share(0)), [0, 0])
        world = World(((), ()), ((("a", ((0, 10), (1, 0))),), (("a", ((0, 1), (1, 10))),)))
        self.assertEqual(purses(world, Share(0)), [None, None])
        self.assertEqual(purses(world, Share(1, 2)), [0, 1])

    def test_turns_are_free(self):
        world = World(((1,), (2,), ()), ((), (("a", ((2, 0),)),), (("a", ((2, 0),)), ("b", ((2, 4),)))))
        self.assertEqual(purses(world, {"a": Share(0), "b": Share(3)}), [None, None, None])
        self.assertEqual(purses(world, {"a": Share(0), "b": Share(4)}), [0, 0, 0])
        world = World(((1,), (2,), ()), ((), (("a", ((2, 0),)),), (("b", ((1, 4),)),)))
        self.assertEqual(purses(world, {"a": Share(0), "b": Share(3)}), [None, None, None])
        self.assertEqual(mean(world), Share(4))

    def test_purse_for(self):
        dice = random.Random(5)
        for seed in range(100):
            w = random_world(seed)
            income = random_income(dice, w)
            for start in range(w.size):
                told = [purse_for(w, income, asks, start=start) for asks in range(8)]
                self.assertEqual(told, [plain_purse_for(w, income, asks, start) for asks in range(8)])
            self.assertEqual(purse_for(w, income, 5), purse_for(w, income, 5, start=w.start))

    def test_facts_of_purse_for(self):
        dice = random.Random(6)
        for seed in range(60):
            w = random_world(seed)
            share = random_share(dice)
            told = [purse_for(w, share, asks) for asks in list(range(20)) + [300]]
            self.assertEqual(told, sorted(told))
            least = purse(w, share)
            if least is not None:
                self.assertEqual(told[-1], least)
            for asks, total in enumerate(worths(w, 19)):
                self.assertLessEqual(share.bottom * total, share.top * asks + told[asks])

    def test_risings_of_the_document(self):
        for numbers, wanted in zip(islice(risings(example(), Share(3, 2)), 4), ([0, 0], [0, 3], [0, 3], [0, 3])):
            self.assertEqual(numbers, wanted)

    def test_new_values(self):
        w = two_names()
        income = {"a": Share(4), "b": Share(4), "c": Share(2), "d": None}
        for call, args in ((purses, (w, income)), (ladder, (w, [income, Share(1)])), (purse, (w, income))):
            kept(call, *args)

    def test_kinds(self):
        w = example()
        half = Share(3, 2)
        for told in (grain(w, half), income_at(w, half, "go"), purse(w, half), purse_for(w, half, 3), purses(w, half)[0]):
            self.assertIs(type(told), int)
        self.assertIs(type(purses(w, half)), list)
        self.assertIs(type(mean(w)), Share)
        self.assertIs(type(ladder(w, [half])), list)

    def test_wrong_inputs(self):
        w = example()
        income = ("income", is_right_income(w), BadIncome)
        start = ("start", is_start(w), NoStanding)
        asks = ("asks", is_count(0, 300), BadCount)
        check_errors(self, purse, {"world": w, "income": Share(1), "start": None}, [income, start])
        check_errors(self, purse_for, {"world": w, "income": Share(1), "asks": 2, "start": 1}, [income, asks, start])
        check_errors(self, mean, {"world": w, "start": None}, [start])
        check_errors(self, purses, {"world": w, "income": Share(1)}, [income])
        self.assertEqual(error_of(purse_for, w, Share(1), 301), (BadCount, 301))
        self.assertIsNone(error_of(purse_for, w, Share(1), 300))


class MeanTest(unittest.TestCase):
    def test_rings(self):
        dice = random.Random(7)
        for size in list(range(1, 12)) + [50, 400]:
            prices = [dice.randint(0, 20) for _ in range(size)]
            for start in (0, size - 1):
                self.assertEqual(mean(loop_world(*prices), start=start), Share(sum(prices), size))
        self.assertEqual(mean(loop_world(0)), Share(0))
        self.assertEqual(mean(loop_world(*[1] * 399 + [2])), Share(401, 400))

    def test_several_rings(self):
        dice = random.Random(8)
        for _ in range(40):
            rings = [[dice.randint(0, 9) for _ in range(dice.randint(1, 9))] for _ in range(dice.randint(1, 6))]
            means = [Share(sum(prices), len(prices)) for prices in rings]
            for chooser in ("keeper", "asks", "turns"):
                world = hub_of_rings(rings, chooser)
                told = mean(world)
                self.assertIn(told, means)
                for other in means:
                    self.assertFalse(other.below(told) if chooser == "keeper" else told.below(other))

    def test_close_rings(self):
        rings = [[1] * 98 + [2], [1] * 99 + [2], [1] * 97 + [2], [1, 1]]
        self.assertEqual(mean(hub_of_rings(rings, "asks")), Share(99, 98))
        self.assertEqual(mean(hub_of_rings(rings[:2], "keeper")), Share(101, 100))
        self.assertEqual(mean(hub_of_rings(rings, "keeper")), Share(1))

    def test_least_share_that_is_borne(self):
        for seed in range(60):
            w = random_world(seed)
            start = seed % w.size
            told = mean(w, start=start)
            self.assertIsNotNone(least_purses(w, told)[start])
            # Another fraction with such a bottom is further away.
            less = told - Share(1, w.size * w.size + 1)
            if not less.below(0):
                self.assertIsNone(least_purses(w, less)[start])

    def test_facts(self):
        for seed in range(200):
            w = random_world(seed)
            self.assertEqual(mean(w), mean(w, start=w.start))
            for start in range(w.size):
                told = mean(w, start=start)
                self.assertLessEqual(told.bottom, w.size)
                self.assertEqual(mean(w.scaled(BIG), start=start), told * BIG)

    def test_totals_keep_near_the_mean(self):
        for seed in range(30):
            w = random_world(seed)
            told = mean(w)
            for asks, total in enumerate(worths(w, 300)):
                self.assertLessEqual(abs(told.bottom * total - told.top * asks), told.bottom * 5 * (w.size + 1))


class LadderTest(unittest.TestCase):
    def test_ladders(self):
        dice = random.Random(9)
        for seed in range(40):
            w = random_world(seed)
            incomes = [random_income(dice, w) for _ in range(5)]
            for start in [None] + list(range(w.size)):
                self.assertEqual(ladder(w, incomes, start=start), [purse(w, one, start=start) for one in incomes])
        self.assertEqual(ladder(example(), []), [])
        self.assertEqual(ladder(example(), [Share(2), Share(3, 2), Share(1)], start=1), [1, 3, None])

    def test_40_items(self):
        w = example()
        incomes = [Share(k, 10) for k in range(40)]
        self.assertEqual(ladder(w, incomes), [purse(w, one) for one in incomes])
        self.assertEqual(error_of(ladder, w, incomes + [Share(1)]), (BadIncome, -1))
        self.assertEqual(error_of(ladder, w, [None] * 41), (BadIncome, -1))

    def test_wrong_lists(self):
        w = example()
        for value in odd_values():
            if not isinstance(value, list):
                self.assertEqual(error_of(ladder, w, value), (BadIncome, -1))
                self.assertEqual(error_of(ladder, w, value, start=7), (BadIncome, -1))
        self.assertEqual(error_of(ladder, w, (Share(1),)), (BadIncome, -1))

    def test_wrong_items(self):
        w = example()
        for value in odd_values() + [Share(-1, 2), {"go": None}, {"go": Share(-1)}]:
            right = is_right_income(w)(value)
            for index in (0, 1, 39):
                incomes = [Share(1)] * 40
                incomes[index] = value
                self.assertEqual(error_of(ladder, w, incomes), None if right else (BadIncome, index))
                incomes[-1] = None
                told = error_of(ladder, w, incomes, start="x")
                self.assertEqual(told, (BadIncome, 39 if right else index))
                self.assertTrue(is_plain_integer(told[1]))

    def test_wrong_starts(self):
        w = example()
        check_errors(self, ladder, {"world": w, "incomes": [Share(1)], "start": 0}, [("start", is_start(w), NoStanding)])
        self.assertEqual(error_of(ladder, w, [], start=2), (NoStanding, 2))


if __name__ == "__main__":
    unittest.main()
