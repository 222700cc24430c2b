"""[44], [45]: diaries of unknown runs."""

import random
import unittest

from neverowing.diaries import can_be, count_fit, ends_that_fit, fitting_run, foretold, greatest_purse, paid
from neverowing.errors import BadCount, BadDiary, BadIncome, BadName, NoStanding
from neverowing.shares import Share
from neverowing.worlds import World
from tests.helpers import (error_of, example, is_plain_integer, is_right_income, is_right_name, is_start, kept,
                           loop_world, odd_values, random_income, random_world, small_world)
from tests.reference import grains

HALF = Share(3, 2)
UNKNOWN = (None, None)


def fits(wanted, told):
    return wanted is None or wanted == told


def runs_that_fit(world, diary, start):
    """All runs that fit, step by step, as lists of (standing, name, next, price)."""
    rows = [[]]
    for name, price in diary:
        found = []
        for run in rows:
            for asked in world.by_turns(run[-1][2] if run else start):
                for other, answers in world.asks[asked]:
                    found += [run + [(asked, other, goal, cost)] for goal, cost in answers
                              if fits(name, other) and fits(price, cost)]
        rows = found
    return rows


def random_run(dice, world, many, start):
    run = []
    for _ in range(many):
        asked = dice.choice([one for one in world.by_turns(run[-1][2] if run else start) if world.asks[one]])
        name, answers = dice.choice(world.asks[asked])
        run.append((asked, name) + dice.choice(answers))
    return run


def random_diary(dice, world, most=4):
    """A diary of a real run, with something unknown or something changed."""
    diary = []
    for _, name, _, price in random_run(dice, world, dice.randint(0, most), world.start):
        diary.append((name if dice.random() < 0.5 else None, price if dice.random() < 0.5 else None))
    if diary and dice.random() < 0.3:
        diary[dice.randrange(len(diary))] = (dice.choice([None, "a", "go", "zz"]), dice.choice([None, 0, 2, 9]))
    return diary


def best_rest(world, diary, income, purse, start):
    """The greatest purse at the end, by a look at all runs."""
    grain, gains = grains(world, income)
    rests = []
    for run in runs_that_fit(world, diary, start):
        purses = [purse]
        for _, name, _, price in run:
            purses.append(purses[-1] + gains[name] - grain * price)
        if min(purses) >= 0:
            rests.append(purses[-1])
    return max(rests, default=None)


def may_come(world, standing, name):
    return any(name == other for asked in world.by_turns(standing) for other, _ in world.asks[asked])


def is_item(value):
    return (type(value) is tuple and len(value) == 2 and (value[0] is None or is_right_name(value[0]))
            and (value[1] is None or is_plain_integer(value[1]) and value[1] >= 0))


def diary_fault(value):
    """What BadDiary tells, None for a diary."""
    if type(value) is not list or len(value) > 40:
        return -1
    return next((index for index, item in enumerate(value) if not is_item(item)), None)


def wide_world(many, prices):
    """At each of so many standings one ask leads to each of them, at a price by its number."""
    answers = tuple((goal, prices[goal]) for goal in range(many))
    return World(((),) * many, ((("a", answers),),) * many)


CALLS = ((can_be, ()), (count_fit, ()), (ends_that_fit, ()), (paid, ()), (greatest_purse, (Share(2), 0)),
         (foretold, ("go",)), (fitting_run, ()))


class DiaryTest(unittest.TestCase):
    def test_example(self):
        diary = [("go", None), (None, 0)]
        self.assertEqual([count_fit(example(), diary), ends_that_fit(example(), diary), paid(example(), diary)],
                         [2, [1], (0, 2)])

    def test_against_all_runs(self):
        met = set()
        for seed in range(500):
            dice = random.Random(seed)
            world = small_world(dice) if seed % 2 else random_world(seed)
            diary = random_diary(dice, world, 4 if seed % 2 else 2)
            for start in (None, dice.randrange(world.size)):
                begin = world.start if start is None else start
                runs = runs_that_fit(world, diary, begin)
                met.add(len(runs) > 0)
                self.check(world, diary, start, begin, runs)
        self.assertEqual(met, {True, False})

    def check(self, world, diary, start, begin, runs):
        ends = sorted({run[-1][2] if run else begin for run in runs})
        totals = [sum(step[3] for step in run) for run in runs]
        self.assertIs(kept(can_be, world, diary, start=start), len(runs) > 0)
        self.assertEqual(kept(count_fit, world, diary, start=start), len(runs))
        self.assertEqual(kept(ends_that_fit, world, diary, start=start), ends)
        self.assertEqual(kept(paid, world, diary, start=start), (min(totals), max(totals)) if runs else None)
        for name in ["a", "b", "go", "zz"]:
            flags = [may_come(world, end, name) for end in ends]
            self.assertEqual(kept(foretold, world, diary, name, start=start), (any(flags), all(flags)))
        run = kept(fitting_run, world, diary, start=start)
        if runs:
            self.assertIs(type(run), list)
            self.assertTrue(all(type(step) is tuple for step in run))
            self.assertIn(run, [[step[:3] for step in one] for one in runs])
        else:
            self.assertIsNone(run)

    def test_greatest_purse(self):
        met = set()
        for seed in range(400):
            dice = random.Random(seed)
            world = small_world(dice) if seed % 2 else random_world(seed)
            diary = random_diary(dice, world, 4 if seed % 2 else 2)
            income = random_income(dice, world)
            start = dice.choice([None, dice.randrange(world.size)])
            begin = world.start if start is None else start
            for purse in (0, dice.randint(1, 6), 40):
                wanted = best_rest(world, diary, income, purse, begin)
                self.assertEqual(kept(greatest_purse, world, diary, income, purse, start=start), wanted)
                met.add((wanted is None, len(runs_that_fit(world, diary, begin)) > 0))
        self.assertEqual(met, {(True, False), (True, True), (False, True)})

    def test_purses_that_are_too_small(self):
        w = example()
        # Three grains come in at each ask; the prices are 4, 0 and 6 grains.
        for diary, purse, wanted in (([("go", 2)], 0, None), ([("go", 2)], 1, 0), ([("go", 0), (None, 3)], 0, 0),
                                     ([("go", 0), (None, 3), (None, 2)], 0, None),
                                     ([("go", 0), (None, 3), (None, 2)], 1, 0), ([UNKNOWN] * 2, 0, 6),
                                     ([UNKNOWN] * 3, 0, 9), ([], 0, 0), ([], 7, 7), ([(None, 5)], 9, None)):
            self.assertEqual(greatest_purse(w, diary, HALF, purse), wanted)
            self.assertEqual(greatest_purse(w, diary, {"go": HALF}, purse), wanted)
        # Not the greatest purse of all runs: the dear way is barred, though it would end well.
        w = World(((), (), ()), ((("a", ((1, 9), (2, 1))),), (("b", ((1, 0),)),), (("c", ((2, 0),)),)))
        income = {"a": Share(2), "b": Share(50), "c": Share(0)}
        self.assertEqual([greatest_purse(w, [UNKNOWN] * 2, income, purse) for purse in (0, 6, 7)], [1, 7, 50])

    def test_empty_diary(self):
        for seed in range(20):
            world = random_world(seed)
            for start in range(world.size):
                self.assertIs(can_be(world, [], start=start), True)
                self.assertEqual(count_fit(world, [], start=start), 1)
                self.assertEqual(ends_that_fit(world, [], start=start), [start])
                self.assertEqual(paid(world, [], start=start), (0, 0))
                self.assertEqual(fitting_run(world, [], start=start), [])
                self.assertEqual(greatest_purse(world, [], Share(1), 5, start=start), 5)

    def test_turns_are_not_told_apart(self):
        # Two ways of turns lead to the one asked standing, and turns behind the last ask mean nothing.
        w = World(((1, 2), (3,), (3,), (0,)), ((), (), (), (("a", ((0, 1),)),)))
        self.assertEqual(count_fit(w, [UNKNOWN]), 1)
        self.assertEqual(count_fit(w, [UNKNOWN] * 3), 1)
        self.assertEqual(ends_that_fit(w, [UNKNOWN]), [0])
        self.assertEqual(fitting_run(w, [UNKNOWN] * 2), [(3, "a", 0)] * 2)
        # Runs with the same next standing, but asked at two standings or under two names, are two.
        w = World(((1,), ()), ((("a", ((0, 1),)), ("b", ((0, 1),))), (("a", ((0, 1),)),)))
        self.assertEqual([count_fit(w, [UNKNOWN]), count_fit(w, [("a", None)]), count_fit(w, [("b", 1)])], [3, 2, 1])

    def test_names_and_prices_that_the_world_has_not(self):
        w = example()
        for diary in ([("stay", None)], [UNKNOWN, ("zzzzzzzzzzzz", None)], [(None, 4)], [("go", 10 ** 30)]):
            self.assertEqual([can_be(w, diary), count_fit(w, diary), ends_that_fit(w, diary), paid(w, diary),
                              greatest_purse(w, diary, HALF, 9), foretold(w, diary, "go"), fitting_run(w, diary)],
                             [False, 0, [], None, None, (False, True), None])

    def test_foretold(self):
        w = World(((), (2,), ()), ((("a", ((1, 0), (2, 0))),), (("b", ((1, 0),)),), (("c", ((2, 0),)),)))
        self.assertEqual([foretold(w, [UNKNOWN], name) for name in ("a", "b", "c", "d")],
                         [(False, False), (True, False), (True, True), (False, False)])
        self.assertEqual(foretold(w, [], "a"), (True, True))

    def test_long_diaries(self):
        world = wide_world(3, (0, 1, 5))
        diary = [UNKNOWN] * 40
        self.assertEqual(count_fit(world, diary), 3 ** 40)
        self.assertEqual(paid(world, diary), (0, 200))
        self.assertEqual(ends_that_fit(world, diary), [0, 1, 2])
        self.assertEqual(greatest_purse(world, diary, Share(1), 0), 40)
        self.assertEqual(greatest_purse(world, [(None, 5)] + [UNKNOWN] * 39, Share(1), 4), 39)
        self.assertIsNone(greatest_purse(world, [UNKNOWN] * 39 + [(None, 5)] * 1, Share(0), 4))
        self.assertEqual(greatest_purse(world, [(None, 5), (None, 1)] * 20, {"a": Share(7, 2)}, 3), 43)
        run = fitting_run(world, [("a", 5), UNKNOWN] * 20)
        self.assertEqual([step[2] for step in run][::2], [2] * 20)
        self.assertEqual(len(run), 40)

    def test_long_diaries_of_real_runs(self):
        for seed in range(25):
            dice = random.Random(seed)
            world = random_world(seed)
            run = random_run(dice, world, 40, world.start)
            diary = [(name, price) for _, name, _, price in run]
            masked = [(name if dice.random() < 0.3 else None, price if dice.random() < 0.3 else None)
                      for name, price in diary]
            for told in (diary, masked, [UNKNOWN] * 40):
                self.assertIs(can_be(world, told), True)
                self.assertEqual(count_fit(world, told), counted_backward(world, told))
                self.assertIn(run[-1][2], ends_that_fit(world, told))
                least, most = paid(world, told)
                self.assertLessEqual(least, sum(price for _, price in diary))
                self.assertGreaterEqual(most, sum(price for _, price in diary))
                self.check_run(world, told, fitting_run(world, told))

    def check_run(self, world, diary, run):
        self.assertEqual(len(run), len(diary))
        at = world.start
        for (asked, name, goal), (wanted, cost) in zip(run, diary):
            self.assertIn(asked, world.by_turns(at))
            self.assertTrue(fits(wanted, name) and fits(cost, world.price(asked, name, goal)))
            at = goal

    def test_40_and_41_items(self):
        world = loop_world(1, 2)
        for many, wanted in ((0, None), (1, None), (40, None), (41, (BadDiary, -1)), (400, (BadDiary, -1))):
            for call, args in CALLS:
                given = [Share(2) if one == Share(2) else one for one in args]
                self.assertEqual(error_of(call, world, [UNKNOWN] * many, *given), wanted)
                self.assertEqual(error_of(call, world, [UNKNOWN] * many + [None], *given),
                                 (BadDiary, many) if many < 40 else (BadDiary, -1))

    def test_wrong_diaries(self):
        w = example()
        items = odd_values() + [(one, two) for one in odd_values() for two in odd_values()[:30]]
        items += [("go", True), ("go", False), (True, 0), ("Go", 0), ("a" * 13, None), ("a" * 12, 0), ("go", -1),
                  ["go", 0], ("go", 0, 0), ("go",), ((), 0), ("go", (0,)), ("go", "0"), ("", None), ("\u00e4", None),
                  ("g\n", 1), (None, Share(1))]
        diaries = odd_values() + [[item] for item in items] + [[UNKNOWN, ("go", 3), item, None] for item in items]
        diaries += [({}, ()), ((None, None),), {0: UNKNOWN}, [UNKNOWN] * 5 + [UNKNOWN + (None,)]]
        for diary in diaries:
            fault = diary_fault(diary)
            for call, args in CALLS:
                told = error_of(call, w, diary, *args)
                self.assertEqual(told, None if fault is None else (BadDiary, fault), diary)
                if told is not None:
                    self.assertTrue(is_plain_integer(told[1]))

    def test_order_of_errors(self):
        w = example()
        right = {"diary": [("go", None)], "income": Share(2), "purse": 0, "name": "go", "start": 0}
        judges = {"diary": lambda value: diary_fault(value) is None, "income": is_right_income(w), "start": is_start(w),
                  "purse": lambda value: is_plain_integer(value) and value >= 0, "name": is_right_name}
        errors = {"diary": BadDiary, "income": BadIncome, "purse": BadCount, "name": BadName, "start": NoStanding}
        places = {can_be: ["diary", "start"], count_fit: ["diary", "start"], ends_that_fit: ["diary", "start"],
                  paid: ["diary", "start"], greatest_purse: ["diary", "income", "purse", "start"],
                  foretold: ["diary", "name", "start"], fitting_run: ["diary", "start"]}
        dice = random.Random(2)
        for call, names in places.items():
            trials = [{name: k} for name in names for k in range(len(odd_values()))]
            trials += [{name: dice.randrange(len(odd_values())) for name in dice.sample(names, dice.randint(1, len(names)))}
                       for _ in range(200)]
            for trial in trials:
                given = {name: odd_values()[trial[name]] if name in trial else right[name] for name in names}
                first = next((name for name in names if not judges[name](given[name])), None)
                told = error_of(call, w, **given)
                if first is None:
                    self.assertIsNone(told)
                else:
                    self.assertIs(told[0], errors[first])
                    if first != "diary":
                        self.assertIs(told[1], given[first])

    def test_kinds(self):
        w = example()
        diary = [("go", None)]
        self.assertEqual([type(told) for told in (can_be(w, diary), count_fit(w, diary), ends_that_fit(w, diary),
                                                  paid(w, diary), greatest_purse(w, diary, HALF, 0),
                                                  foretold(w, diary, "go"), fitting_run(w, diary))],
                         [bool, int, list, tuple, int, tuple, list])
        self.assertEqual([type(flag) for flag in foretold(w, diary, "go")], [bool, bool])
        self.assertEqual([type(flag) for flag in foretold(w, [("no", None)], "go")], [bool, bool])


def counted_backward(world, diary):
    """The number of runs that fit, from the last item on."""
    behind = [1] * world.size
    for name, price in reversed(diary):
        own = [sum(behind[goal] for other, answers in row for goal, cost in answers
                   if fits(name, other) and fits(price, cost)) for row in world.asks]
        behind = [sum(own[asked] for asked in world.by_turns(standing)) for standing in range(world.size)]
    return behind[world.start]


if __name__ == "__main__":
    unittest.main()
