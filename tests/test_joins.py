"""[29] to [32]: incomes and certificates of wholes, put together."""

import random
import unittest
from math import lcm

from neverowing.errors import BadIncomes, BadPapers, BadWhole, OweError
from neverowing.joins import join_foe, join_income, join_keeper
from neverowing.papers import foe_fault, foe_paper, keeper_fault, keeper_paper
from neverowing.purses import grain, mean, purse, purses
from neverowing.shares import Share
from neverowing.wholes import Behind, Side, Step
from neverowing.worlds import World
from neverowing.worths import worths
from tests.helpers import (error_of, example, is_right_income, is_right_share, kept, loop_world, odd_values,
                           random_income, random_links, random_share, random_world, small_world)
from tests.reference import foe_faults, grains, keeper_faults

LINKS = {("go", 0): "go", ("go", 1): "go"}


def wholes():
    w = example()
    return [Side([w, w]), Step([w, w]), Behind(w, w, LINKS)]


def random_part(dice):
    return random_world(dice.randrange(10 ** 6)) if dice.random() < 0.4 else small_world(dice)


def random_wholes(many, kinds=(Side, Step, Behind)):
    """Wholes with the random source that made them."""
    for seed in range(many):
        dice = random.Random(seed)
        kind = kinds[seed % len(kinds)]
        parts = [random_part(dice) for _ in range(2 if kind is Behind else dice.choice((2, 2, 3, 4)))]
        try:
            if kind is not Behind:
                yield dice, kind(parts)
            elif random_links(random.Random(seed), *parts) is not None:
                yield dice, Behind(*parts, random_links(dice, *parts))
        except OweError:
            continue


def incomes_for(dice, whole, least=False):
    """An income for each part, the least one that is borne or a random one."""
    told = []
    for k, part in enumerate(whole.parts):
        if least or dice.random() < 0.4:
            told.append(mean(part) + Share(dice.choice((0, 0, 1)), dice.randint(1, 5)))
        elif isinstance(whole, Behind) and k == 1:
            told.append(random_share(dice))
        else:
            told.append(random_income(dice, part))
    return told


def share_at(income, name):
    return income if isinstance(income, Share) else income[name]


class JoinIncomeTest(unittest.TestCase):
    def test_example(self):
        w = example()
        side = Side([w, w])
        income = join_income(side, [Share(3, 2), Share(2)])
        self.assertEqual([sorted(income), purse(side.world, income, start=side.number_of((1, 1)))], [["ago", "bgo"], 5])
        self.assertEqual([grain(w, Share(3, 2)), grain(w, Share(2)), grain(side.world, income)], [2, 1, 2])
        self.assertEqual([purses(w, Share(3, 2))[1], purses(w, Share(2))[1]], [3, 1])

    def test_joined_shares(self):
        for dice, whole in random_wholes(150):
            incomes = incomes_for(dice, whole)
            told = kept(join_income, whole, incomes)
            self.assertEqual(sorted(told), whole.world.names())
            for name in told:
                if isinstance(whole, Side):
                    wanted = share_at(incomes["abcd".index(name[0])], name[1:])
                elif isinstance(whole, Step):
                    wanted = Share(0)
                    for income in incomes:
                        wanted = wanted + share_at(income, name)
                else:
                    wanted = share_at(incomes[0], name) + incomes[1]
                self.assertEqual(told[name], wanted)
            self.assertIs(type(told), dict)
            self.assertTrue(is_right_income(whole.world)(told))

    def test_facts_of_sides(self):
        endless = 0
        for dice, side in random_wholes(90, (Side,)):
            incomes = incomes_for(dice, side)
            joined = join_income(side, incomes)
            parts = [grain(part, income) for part, income in zip(side.parts, incomes)]
            self.assertEqual(grain(side.world, joined), lcm(*parts))
            numbers = [purses(part, income) for part, income in zip(side.parts, incomes)]
            for number, told in enumerate(purses(side.world, joined)):
                least = [row[standing] for row, standing in zip(numbers, side.tuple_of(number))]
                if None in least:
                    endless += 1
                    self.assertIsNone(told)
                else:
                    self.assertEqual(told, sum(lcm(*parts) // b * x for b, x in zip(parts, least)))
        self.assertGreater(endless, 50)

    def test_facts_of_steps_and_behinds(self):
        for dice, whole in random_wholes(120, (Step, Behind)):
            incomes = incomes_for(dice, whole, least=True)
            joined = join_income(whole, incomes)
            whole_grain = grain(whole.world, joined)
            parts = [grain(part, income) for part, income in zip(whole.parts, incomes)]
            numbers = [purses(part, income) for part, income in zip(whole.parts, incomes)]
            for number, told in enumerate(purses(whole.world, joined)):
                least = [row[standing] for row, standing in zip(numbers, whole.tuple_of(number))]
                if None not in least:
                    bound = Share(0)
                    for b, x in zip(parts, least):
                        bound = bound + Share(whole_grain * x, b)
                    self.assertIsNotNone(told)
                    self.assertFalse(bound.below(told))

    def test_facts_of_means_and_totals(self):
        for dice, whole in random_wholes(90):
            means = [mean(part) for part in whole.parts]
            told = mean(whole.world)
            if isinstance(whole, Side):
                self.assertIn(told, means)
                self.assertFalse(any(told.below(one) for one in means))
                totals = [worths(part, 5) for part in whole.parts]
                row = worths(whole.world, 10)
                for k in range(6):
                    for m in range(6):
                        self.assertGreaterEqual(row[k + m], totals[0][k] + totals[1][m])
            else:
                together = Share(0)
                for one in means:
                    together = together + one
                self.assertFalse(together.below(told))

    def test_wrong_lists(self):
        for whole in wholes():
            for value in odd_values() + [[Share(1)], [Share(1)] * 3, (Share(1), Share(1)), {0: Share(1), 1: Share(1)}]:
                for call in (lambda: join_income(whole, value), lambda: join_keeper(whole, value, None)):
                    if not (isinstance(value, list) and len(value) == 2):
                        self.assertEqual(error_of(call), (BadIncomes, -1))

    def test_wrong_items(self):
        w = example()
        for whole in wholes():
            for value in odd_values() + [Share(-1), {"go": Share(1)}, {"go": Share(-1)}, {"go": 1}]:
                right = is_right_income(w)(value)
                told = error_of(join_income, whole, [value, Share(1)])
                self.assertEqual(told, None if right else (BadIncomes, 0))
                told = error_of(join_income, whole, [Share(1), value])
                last = is_right_share(value) if isinstance(whole, Behind) else right
                self.assertEqual(told, None if last else (BadIncomes, 1))
                self.assertEqual(error_of(join_income, whole, [value, None]), (BadIncomes, 1 if right else 0))
                if not right:
                    self.assertEqual(error_of(join_keeper, whole, [value, None], None), (BadIncomes, 0))

    def test_further_keys(self):
        side, step, behind = wholes()
        more = {"go": Share(1, 2), "x": None, 5: Share(1, 7)}
        self.assertEqual(join_income(side, [more, Share(1)]), {"ago": Share(1, 2), "bgo": Share(1)})
        self.assertEqual(join_income(step, [more, more]), {"go": Share(1)})
        self.assertEqual(join_income(behind, [more, Share(1, 3)]), {"go": Share(5, 6)})


class JoinKeeperTest(unittest.TestCase):
    def papers_for(self, whole, incomes):
        papers = [keeper_paper(part, income) for part, income in zip(whole.parts, incomes)]
        return None if None in papers else papers

    def walk_of(self, part, table):
        walk = [part.start]
        for standing in walk:
            for goal in list(part.turns[standing]) + [table[(standing, name)] for name in part.asked(standing)]:
                walk += [] if goal in walk else [goal]
        return walk

    def next_tuple(self, whole, papers, standings, name):
        tables = [paper[1] for paper in papers]
        if isinstance(whole, Side):
            k = "abcd".index(name[0])
            return tuple(tables[j][(standing, name[1:])] if j == k else standing
                         for j, standing in enumerate(standings))
        if isinstance(whole, Step):
            return tuple(table[(standing, name)] for table, standing in zip(tables, standings))
        goal = tables[0][(standings[0], name)]
        return goal, tables[1][(standings[1], whole.links[(name, goal)])]

    def check(self, whole, incomes, papers):
        heights, table = kept(join_keeper, whole, incomes, papers)
        joined = join_income(whole, incomes)
        whole_grain = grain(whole.world, joined)
        parts = [grain(part, income) for part, income in zip(whole.parts, incomes)]
        walks = [self.walk_of(part, paper[1]) for part, paper in zip(whole.parts, papers)]
        within = [number for number in range(whole.world.size)
                  if all(standing in walk for standing, walk in zip(whole.tuple_of(number), walks))]
        self.assertEqual(sorted(heights), within)
        self.assertEqual(sorted(table), sorted((number, name) for number in within
                                               for name in whole.world.asked(number)))
        for number in within:
            standings = whole.tuple_of(number)
            level = Share(0)
            for paper, b, standing in zip(papers, parts, standings):
                level = level + Share(whole_grain * paper[0][standing], b)
            self.assertEqual(heights[number], level.top // level.bottom)
            for name in whole.world.asked(number):
                self.assertEqual(whole.tuple_of(table[(number, name)]), self.next_tuple(whole, papers, standings, name))
        start = whole.world.start
        self.assertIsNone(keeper_fault(whole.world, joined, heights[start], heights, table))
        self.assertEqual(keeper_faults(whole.world, joined, heights[start], heights, table, start), [])

    def test_joined_papers(self):
        checked = {Side: 0, Step: 0, Behind: 0}
        for dice, whole in random_wholes(210):
            incomes = incomes_for(dice, whole, least=True)
            papers = self.papers_for(whole, incomes)
            self.check(whole, incomes, papers)
            # Higher heights and entries off the walk make no fault, and are not needed.
            lifted = [({key: 2 * value + 3 for key, value in heights.items()}, dict(table))
                      for heights, table in papers]
            if all(keeper_fault(part, income, 10 ** 9, *paper) is None
                   for part, income, paper in zip(whole.parts, incomes, lifted)):
                lifted = [({**heights, 99: "x"}, {**table, "x": None}) for heights, table in lifted]
                self.check(whole, incomes, lifted)
            checked[type(whole)] += 1
        self.assertGreater(min(checked.values()), 20)

    def test_unlike_grains(self):
        w = example()
        step = Step([w, w])
        incomes = [Share(3, 2), Share(5, 3)]
        papers = self.papers_for(step, incomes)
        self.assertEqual([papers[0][0], papers[1][0]], [{0: 0, 1: 3}, {0: 0, 1: 4}])
        self.check(step, incomes, papers)
        self.assertEqual(join_keeper(step, incomes, papers)[0], {0: 0, 1: 8, 2: 9, 3: 17})
        # Halves and halves are whole together: what is left over is let fall.
        incomes = [Share(3, 2), Share(3, 2)]
        papers = [({0: 0, 1: 3}, papers[0][1]), ({0: 0, 1: 3}, papers[0][1])]
        self.assertEqual(join_keeper(step, incomes, papers)[0], {0: 0, 1: 1, 2: 1, 3: 3})
        step = Step([w.with_start(1), w])
        papers = [({0: 2, 1: 5}, papers[0][1]), ({0: 1, 1: 4}, papers[0][1])]
        heights, table = join_keeper(step, incomes, papers)
        self.assertEqual(heights, {0: 1, 1: 3, 2: 3, 3: 4})
        self.assertIsNone(keeper_fault(step.world, {"go": Share(3)}, 3, heights, table))

    def test_kinds(self):
        side = wholes()[0]
        incomes = [Share(3, 2), Share(2)]
        told = join_keeper(side, incomes, self.papers_for(side, incomes))
        self.assertIs(type(told), tuple)
        self.assertEqual([type(part) for part in told], [dict, dict])

    def test_wrong_papers(self):
        for whole in wholes():
            incomes = [Share(3, 2), Share(2)]
            papers = self.papers_for(whole, incomes)
            for value in odd_values() + [papers[:1], papers + papers[:1], tuple(papers), dict(enumerate(papers))]:
                if not (isinstance(value, list) and len(value) == 2):
                    self.assertEqual(error_of(join_keeper, whole, incomes, value), (BadPapers, -1))
            heights, table = papers[0]
            wrong = odd_values() + [
                (heights,), (heights, table, {}), [heights, table], (table, heights), ({**heights, 1: 2}, table),
                ({1: 3}, table), ({**heights, 0: None}, table), ({**heights, 0: False}, table),
                ({**heights, 0: -1}, table), (heights, {**table, (0, "go"): 0}), (heights, {(0, "go"): 1})]
            wrong += [(heights, value) for value in odd_values()] + [(value, table) for value in odd_values()]
            for value in wrong:
                self.assertEqual(error_of(join_keeper, whole, incomes, [value, papers[1]]), (BadPapers, 0))
                self.assertEqual(error_of(join_keeper, whole, incomes, [value, None]), (BadPapers, 0))
                self.assertEqual(error_of(join_keeper, whole, incomes, [papers[0], (heights, table, 1)]), (BadPapers, 1))
            for value in odd_values():
                self.assertEqual(error_of(join_keeper, whole, incomes, [papers[0], value]), (BadPapers, 1))
                self.assertEqual(error_of(join_keeper, whole, [Share(1), None], value), (BadIncomes, 1))

    def test_start_of_the_part_counts(self):
        w = example()
        side = Side([w, w.with_start(1)])
        incomes = [Share(3, 2), Share(3, 2)]
        papers = self.papers_for(side, incomes)
        self.check(side, incomes, papers)
        self.assertEqual(error_of(join_keeper, side, incomes, [({0: 0}, papers[0][1]), papers[1]]), (BadPapers, 0))
        # The height of the start may be greater than it has to be.
        papers = [({0: 5, 1: 8}, papers[0][1]), ({0: 2, 1: 5}, papers[0][1])]
        self.check(side, incomes, papers)


class JoinFoeTest(unittest.TestCase):
    def walk_of(self, part, paper):
        walk = [part.start]
        for standing in walk:
            if paper[0][standing] > 0:
                walk += [goal for goal, _ in part.answers(*paper[2][standing]) if goal not in walk]
        return walk

    def check(self, side, incomes, papers):
        told = kept(join_foe, side, incomes, papers)
        self.assertEqual([type(part) for part in told], [dict, dict, dict])
        lows, ranks, moves = told
        parts = [grain(part, income) for part, income in zip(side.parts, incomes)]
        walks = [self.walk_of(part, paper) for part, paper in zip(side.parts, papers)]
        within = [number for number in range(side.world.size)
                  if all(standing in walk for standing, walk in zip(side.tuple_of(number), walks))]
        self.assertEqual([sorted(lows), sorted(ranks)], [within, within])
        high = 1 + max([0] + [paper[1][s] for paper, walk in zip(papers, walks) for s in walk if paper[0][s] > 0])
        for number in within:
            standings = side.tuple_of(number)
            dear = [k for k, standing in enumerate(standings) if papers[k][0][standing] > 0]
            self.assertEqual(lows[number], sum(lcm(*parts) // parts[k] * papers[k][0][standings[k]] for k in dear))
            self.assertEqual(number in moves, dear != [])
            if dear:
                first = dear[0]
                self.assertEqual(ranks[number], len(dear) * high + papers[first][1][standings[first]])
                there, name = papers[first][2][standings[first]]
                goal = tuple(there if k == first else standing for k, standing in enumerate(standings))
                self.assertEqual(moves[number], (side.number_of(goal), "abcd"[first] + name))
            else:
                self.assertEqual(ranks[number], 0)
        joined = join_income(side, incomes)
        start = side.world.start
        self.assertIsNone(foe_fault(side.world, joined, lows[start], lows, ranks, moves))
        self.assertEqual(foe_faults(side.world, joined, lows[start], lows, ranks, moves, start), [])

    def test_joined_papers(self):
        dear = 0
        for dice, side in random_wholes(240, (Side,)):
            incomes = incomes_for(dice, side, least=dice.random() < 0.7)
            least = [purse(part, income) for part, income in zip(side.parts, incomes)]
            papers = []
            for part, income, number in zip(side.parts, incomes, least):
                bound = dice.choice((0, 1, 5, 99)) if number is None else number
                papers.append(foe_paper(part, income, bound))
            self.check(side, incomes, papers)
            dear += sum(paper[0][part.start] > 0 for part, paper in zip(side.parts, papers)) > 1
            # Lows below 0 count as 0, ranks of theirs and entries off the walk mean nothing.
            spoilt = [({**lows, **{key: -7 for key in lows if lows[key] == 0}, 88: None},
                       {**ranks, **{key: 10 ** 9 for key in lows if lows[key] == 0}, "x": -1},
                       {**moves, **{key: None for key in lows if lows[key] == 0}}) for lows, ranks, moves in papers]
            self.check(side, incomes, spoilt)
        self.assertGreater(dear, 15)

    def test_drains_one_after_the_other(self):
        w = example()
        side = Side([w.with_start(1), w.with_start(1)])
        incomes = [Share(3, 2), Share(2)]
        papers = [foe_paper(part, income, purse(part, income)) for part, income in zip(side.parts, incomes)]
        self.check(side, incomes, papers)
        lows = join_foe(side, incomes, papers)[0]
        self.assertEqual(lows[side.world.start], 5)
        self.assertEqual(purse(side.world, join_income(side, incomes)), 5)

    def test_wrong_sides(self):
        w = example()
        for value in odd_values() + wholes()[1:]:
            self.assertEqual(error_of(join_foe, value, None, None), (BadWhole, "worlds"))
        self.assertEqual(error_of(join_foe, Side([w, w]), None, None), (BadIncomes, -1))

    def test_wrong_incomes(self):
        side = wholes()[0]
        for value in odd_values():
            if not is_right_income(side.parts[0])(value):
                self.assertEqual(error_of(join_foe, side, [value, None], None), (BadIncomes, 0))
                self.assertEqual(error_of(join_foe, side, [Share(1), value], None), (BadIncomes, 1))
            self.assertEqual(error_of(join_foe, side, [value], None), (BadIncomes, -1))

    def test_wrong_papers(self):
        side = wholes()[0]
        incomes = [Share(1), Share(1)]
        papers = [foe_paper(part, income, 5) for part, income in zip(side.parts, incomes)]
        for value in odd_values() + [papers[:1], papers + papers[:1], tuple(papers)]:
            if not (isinstance(value, list) and len(value) == 2):
                self.assertEqual(error_of(join_foe, side, incomes, value), (BadPapers, -1))
        lows, ranks, moves = papers[0]
        wrong = odd_values() + [
            (lows, ranks), (lows, ranks, moves, {}), [lows, ranks, moves], ({1: 9}, ranks, moves),
            ({**lows, 0: None}, ranks, moves), ({**lows, 0: True}, ranks, moves), (lows, {}, moves), (lows, ranks, {}),
            ({**lows, 0: lows[0] + 10}, ranks, moves), (lows, {0: 1, 1: 1}, {0: (0, "go"), 1: (0, "go")})]
        for k in range(3):
            wrong += [tuple(value if j == k else part for j, part in enumerate(papers[0]))
                      for value in odd_values() if not isinstance(value, dict)]
        for value in wrong:
            self.assertEqual(error_of(join_foe, side, incomes, [value, papers[1]]), (BadPapers, 0))
            self.assertEqual(error_of(join_foe, side, incomes, [value, None]), (BadPapers, 0))
            self.assertEqual(error_of(join_foe, side, incomes, [papers[0], value]), (BadPapers, 1))
        # Where the low of the start is 0 or less, nothing else is looked at.
        self.assertIsNone(error_of(join_foe, side, incomes, [({0: 0}, {}, {}), ({0: -5}, {}, {})]))
        self.assertEqual(join_foe(side, incomes, [({0: 0}, {}, {}), ({0: -5}, {}, {})]), ({0: 0}, {0: 0}, {}))

    def test_great_prices(self):
        ring = loop_world(10 ** 20, 0)
        side = Side([ring, World(((),), ((("b", ((0, 1),)),),))])
        incomes = [Share(10 ** 20, 2), Share(1, 3)]
        papers = [foe_paper(part, income, 10 ** 4) for part, income in zip(side.parts, incomes)]
        self.check(side, incomes, papers)


if __name__ == "__main__":
    unittest.main()
