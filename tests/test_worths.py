"""[13] to [15]: the total prices of so many asks."""

import random
import unittest

from neverowing.errors import BadCount, NoAsk, NoStanding, TooMany
from neverowing.worlds import World
from neverowing.worths import best_answer, best_ask, worth, worths
from tests.helpers import (check_errors, error_of, example, is_count, is_plain_integer, is_start, kept, loop_world,
                           odd_values, random_world)
from tests.reference import worth_rows


def slow_world(lump):
    """At standing 0 each ask costs 1, until the keeper pays once for being free for ever.

    The row of worths comes back after as many asks as the lump is, and not before.
    """
    return World(((), ()), ((("a", ((0, 1), (1, lump))),), (("a", ((1, 0),)),)))


def apart_world():
    """From standing 0 the keeper may step to standing 1, where an ask costs twice as much."""
    return World(((), ()), ((("a", ((0, 1), (1, 9))),), (("a", ((1, 2),)),)))


def comes_back(world, start):
    """Whether the row of worths comes back within 300 asks, by a look at all rows."""
    reach = world.reach(start)
    shapes = [tuple(row[standing] - row[start] for standing in reach) for row in worth_rows(world, 300)]
    return len(set(shapes)) < len(shapes)


class WorthTest(unittest.TestCase):
    def test_example(self):
        w = example()
        self.assertEqual([worth(w, 1, start=0), worth(w, 1, start=1), worth(w, 2)], [0, 3, 2])
        self.assertEqual(worths(w, 6), [0, 0, 2, 3, 5, 6, 8])
        self.assertEqual(worth(w, 10 ** 30), 1499999999999999999999999999999)
        self.assertEqual(best_answer(w, 2, 0, "go"), 0)

    def test_small_worlds(self):
        for seed in range(120):
            world = random_world(seed)
            rows = worth_rows(world, 12)
            for start in range(world.size):
                told = [row[start] for row in rows]
                self.assertEqual(worths(world, 12, start=start), told)
                for asks in (0, 1, 2, 12):
                    self.assertEqual(worth(world, asks, start=start), told[asks])

    def test_start_of_the_world(self):
        for seed in range(40):
            world = random_world(seed)
            self.assertEqual(worth(world, 9), worth(world, 9, start=world.start))
            self.assertEqual(worths(world, 9, start=None), worths(world, 9, start=world.start))
            self.assertIn(best_ask(world, 3)[0], world.by_turns(world.start))

    def test_many_asks(self):
        checked = 0
        for seed in range(30):
            world = random_world(seed)
            rows = worth_rows(world, 600)
            for start in range(world.size):
                if comes_back(world, start):
                    checked += 1
                    for asks in (299, 300, 301, 302, 303, 555, 600):
                        self.assertEqual(worth(world, asks, start=start), rows[asks][start])
                else:
                    self.assertEqual(worth(world, 300, start=start), rows[300][start])
                    self.assertEqual(error_of(worth, world, 301, start=start), (TooMany, 300))
        self.assertGreater(checked, 50)

    def test_step_of_great_numbers(self):
        # [14], the Fact: the sum of a round is the same, however often it comes.
        for seed in range(40):
            world = random_world(seed)
            if comes_back(world, world.start):
                step = 27720
                told = [worth(world, 10 ** 30 - k * step) for k in range(3)]
                self.assertEqual(told[0] - told[1], told[1] - told[2])
                self.assertEqual(told[0] - told[1], worth(world, 2000 + step) - worth(world, 2000))

    def test_rows_that_come_back_late(self):
        for lump in (1, 150, 298, 299):
            world = slow_world(lump)
            self.assertTrue(comes_back(world, 0))
            for asks in (lump - 1, lump, lump + 1, 10 ** 30):
                self.assertEqual(worth(world, asks), min(asks, lump))

    def test_rows_that_come_back_too_late(self):
        for lump in (300, 301, 1000):
            world = slow_world(lump)
            self.assertEqual(worth(world, 300), 300)
            self.assertEqual(error_of(worth, world, 301), (TooMany, 300))
            self.assertEqual(error_of(worth, world, 10 ** 30), (TooMany, 300))
            # From the free standing the other one is not come to.
            self.assertEqual(worth(world, 10 ** 30, start=1), 0)

    def test_parts_paid_apart(self):
        world = apart_world()
        self.assertFalse(comes_back(world, 0))
        self.assertEqual(worth(world, 300), 300)
        self.assertEqual(error_of(worth, world, 301), (TooMany, 300))
        self.assertEqual(worth(world, 10 ** 30, start=1), 2 * 10 ** 30)

    def test_long_ring(self):
        world = loop_world(*range(300))
        total = sum(range(300))
        self.assertEqual(worth(world, 300), total)
        self.assertEqual(worth(world, 301), total)
        self.assertEqual(worth(world, 3 * 10 ** 29 + 2), 10 ** 27 * total + 1)
        self.assertEqual(error_of(worth, loop_world(*range(301)), 301), (TooMany, 300))

    def test_great_prices(self):
        world = example()
        self.assertEqual(worth(world.scaled(10 ** 20), 10 ** 30), 10 ** 20 * worth(world, 10 ** 30))
        self.assertEqual(worths(world.scaled(10 ** 20), 6), [k * 10 ** 20 for k in worths(world, 6)])

    def test_bests(self):
        for seed in range(80):
            world = random_world(seed)
            rows = worth_rows(world, 6)
            for asks in (1, 2, 3, 6):
                last = rows[asks - 1]
                for start in range(world.size):
                    standing, name = kept(best_ask, world, asks, start=start)
                    self.assertIn(standing, world.by_turns(start))
                    answers = world.answers(standing, name)
                    self.assertEqual(min(price + last[goal] for goal, price in answers), rows[asks][start])
                    for name in world.asked(start):
                        answers = dict(world.answers(start, name))
                        goal = best_answer(world, asks, start, name)
                        self.assertEqual(answers[goal] + last[goal], min(answers[k] + last[k] for k in answers))

    def test_kinds(self):
        w = example()
        self.assertIs(type(worth(w, 5)), int)
        self.assertIs(type(worths(w, 5)), list)
        self.assertTrue(all(is_plain_integer(told) for told in worths(w, 5)))
        self.assertEqual([type(part) for part in best_ask(w, 300)], [int, str])
        self.assertIs(type(best_ask(w, 300)), tuple)
        self.assertIs(type(best_answer(w, 300, 0, "go")), int)

    def test_new_lists(self):
        kept(worths, example(), 6)

    def test_edges_of_the_counts(self):
        w = example()
        self.assertEqual([worth(w, 0), worths(w, 0), len(worths(w, 300))], [0, [0], 301])
        self.assertEqual(worths(w, 300)[-1], 450 - 1)
        self.assertEqual(error_of(worth, w, 10 ** 30 + 1), (BadCount, 10 ** 30 + 1))
        for call, args in ((worths, ()), (best_ask, ()), (best_answer, (0, "go"))):
            self.assertIsNone(error_of(call, w, 300, *args))
            self.assertEqual(error_of(call, w, 301, *args), (BadCount, 301))
        self.assertEqual(error_of(best_ask, w, 0), (BadCount, 0))
        self.assertEqual(error_of(best_answer, w, 0, 0, "go"), (BadCount, 0))

    def test_wrong_inputs(self):
        w = example()
        right = {"world": w, "asks": 3, "start": 1}
        for call, least, most in ((worth, 0, 10 ** 30), (worths, 0, 300), (best_ask, 1, 300)):
            places = [("asks", is_count(least, most), BadCount), ("start", is_start(w), NoStanding)]
            check_errors(self, call, right, places)

    def test_wrong_inputs_of_best_answer(self):
        w = World(((), (0,)), ((("a", ((0, 2),)), ("go", ((0, 1),))), (("go", ((0, 3),)),)))
        right = {"world": w, "asks": 3, "standing": 1, "name": "go"}
        places = [("asks", is_count(1, 300), BadCount), ("standing", is_count(0, 1), NoStanding),
                  ("name", lambda value: value == "go", NoAsk)]
        check_errors(self, best_answer, right, places)
        # The foe may turn to standing 0, but the ask is not one of standing 1.
        self.assertEqual(error_of(best_answer, w, 1, 1, "a"), (NoAsk, "a"))

    def test_too_many_comes_last(self):
        world = apart_world()
        for value in odd_values():
            if not is_start(world)(value):
                self.assertEqual(error_of(worth, world, 301, start=value)[0], NoStanding)

    def test_size(self):
        # 400 standings in a chain of turns: nothing recurs.
        turns = tuple((k - 1,) if k else () for k in range(400))
        asks = tuple((("a", ((399, k),)),) if k % 7 == 0 else () for k in range(400))
        world = World(turns, asks)
        self.assertEqual(worth(world, 10 ** 30, start=399), 399 * 10 ** 30)
        dice = random.Random(1)
        world = World(((),) * 400, tuple((("a", ((dice.randrange(400), 10 ** 20),)),) for _ in range(400)))
        self.assertEqual(worth(world, 10 ** 30), 10 ** 50)


if __name__ == "__main__":
    unittest.main()
