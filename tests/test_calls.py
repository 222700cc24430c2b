"""[37] to [39]: calls through an exchange of three stages."""

import itertools
import math
import random
import unittest

from neverowing.calls import CallWorld
from neverowing.errors import BadExchange, BadLot, BadPair, NoRoom, TooMany
from neverowing.purses import mean, purses
from neverowing.shares import Share
from neverowing.worlds import World
from tests.helpers import error_of, is_count, is_plain_integer, kept, odd_values, picture
from tests.services import check_service_world, check_what, check_world_functions, wrong_values

SMALL = [((1,), (1,), 1), ((2,), (2,), 2), ((1,), (3,), 1), ((1, 1), (1,), 1), ((1, 1), (1, 1), 1), ((1, 1), (1, 1), 2),
         ((2,), (1, 1), 2), ((2, 1), (1, 2), 2), ((3,), (1, 2), 3), ((1, 1), (1, 1), 4), ((1, 1, 1), (1, 1), 2),
         ((1, 1, 1), (3,), 3), ((2, 2), (2, 2), 2), ((3, 3), (3,), 3), ((1, 1, 1), (1, 1, 1), 1), ((3,), (3,), 4)]


def loads(many, more):
    """All sets of pairs in which no switch stands twice, by a look at all sets."""
    pairs = list(itertools.product(range(many), range(more)))
    rows = [row for size in range(min(many, more) + 1) for row in itertools.combinations(pairs, size)]
    return [row for row in rows if len({i for i, _ in row}) == len({o for _, o in row}) == len(row)]


def calls_in(lot):
    return sorted(pair for load in lot for pair in load)


def within(ins, outs, calls):
    return (all(sum(pair[0] == k for pair in calls) <= doors for k, doors in enumerate(ins))
            and all(sum(pair[1] == k for pair in calls) <= doors for k, doors in enumerate(outs)))


def lots(ins, outs, middles):
    """All standings, by a look at all rows of loads."""
    rows = itertools.combinations_with_replacement(sorted(loads(len(ins), len(outs))), middles)
    return sorted(row for row in rows if within(ins, outs, calls_in(row)))


def open_in(ins, outs, lot):
    pairs = itertools.product(range(len(ins)), range(len(outs)))
    return sorted(pair for pair in pairs if within(ins, outs, calls_in(lot) + [pair]))


def price(lot, goal):
    """The places that are given up, dealt in all ways."""
    return min(sum(len(set(load) - set(dealt)) for load, dealt in zip(lot, way))
               for way in itertools.permutations(goal))


def degree(ins, outs):
    return max([min(doors, sum(outs)) for doors in ins] + [min(doors, sum(ins)) for doors in outs])


def are_doors(value):
    return type(value) is tuple and 1 <= len(value) <= 3 and all(is_plain_integer(k) and 1 <= k <= 3 for k in value)


class CallTest(unittest.TestCase):
    def test_example(self):
        exchange = CallWorld((2,), (2,), 2)
        one = ((), ((0, 0),))
        self.assertEqual([len(exchange.standings()), exchange.open_pairs(one), exchange.nexts(one, (0, 0)),
                          exchange.ended(one, (0, 0), ((0, 0),))],
                         [3, [(0, 0)], [(((0, 0),), ((0, 0),))], ((), ())])

    def test_standings(self):
        for bounds in SMALL:
            exchange = CallWorld(*bounds)
            self.assertEqual((exchange.ins, exchange.outs, exchange.middles), bounds)
            self.assertEqual(kept(exchange.standings), lots(*bounds))

    def test_methods(self):
        for bounds in SMALL:
            exchange = CallWorld(*bounds)
            order = lots(*bounds)
            for lot in order:
                pairs = open_in(bounds[0], bounds[1], lot)
                self.assertEqual(kept(exchange.open_pairs, lot), pairs)
                for pair in pairs:
                    nexts = [goal for goal in order if calls_in(goal) == sorted(calls_in(lot) + [pair])]
                    self.assertEqual(kept(exchange.nexts, lot, pair), nexts)
                    for goal in nexts:
                        self.assertEqual(exchange.moved(lot, pair, goal), price(lot, goal))
                for load in lot:
                    for pair in load:
                        rest = list(lot)
                        rest[rest.index(load)] = tuple(one for one in load if one != pair)
                        self.assertEqual(exchange.ended(lot, pair, load), tuple(sorted(rest)))

    def test_exchanges_with_many_standings(self):
        dice = random.Random(1)
        for bounds in (((2, 3), (2, 3, 3), 4), ((3, 3), (2, 3, 3), 3), ((1, 1, 2), (2, 2, 3), 3),
                       ((1, 1, 3), (1, 2, 2), 4)):
            exchange = CallWorld(*bounds)
            order = lots(*bounds)
            self.assertEqual(exchange.standings(), order)
            for lot in dice.sample(order, 30):
                pairs = open_in(bounds[0], bounds[1], lot)
                self.assertEqual(exchange.open_pairs(lot), pairs)
                for pair in pairs:
                    nexts = [goal for goal in order if calls_in(goal) == sorted(calls_in(lot) + [pair])]
                    self.assertEqual(exchange.nexts(lot, pair), nexts)
                    for goal in nexts:
                        self.assertEqual(exchange.moved(lot, pair, goal), price(lot, goal))

    def test_price_needs_the_best_dealing(self):
        exchange = CallWorld((2, 2), (2, 2), 2)
        lot = (((0, 0),), ((1, 1),))
        # One of the calls must give way; the middles may be dealt either way.
        self.assertEqual(exchange.nexts(lot, (0, 1)), [(((0, 0), (1, 1)), ((0, 1),))])
        self.assertEqual(exchange.moved(lot, (0, 1), (((0, 0), (1, 1)), ((0, 1),))), 1)
        self.assertEqual(exchange.moved(lot, (0, 0), (((0, 0),), ((0, 0), (1, 1)))), 0)
        # Loads that stand the other way round cost nothing, since middles have no names.
        self.assertEqual(exchange.moved(((), ((0, 0),)), (1, 1), (((0, 0),), ((1, 1),))), 0)
        self.assertEqual(exchange.moved(((), ((0, 0),)), (1, 1), ((), ((0, 0), (1, 1)))), 0)

    def test_equal_and_empty_loads(self):
        exchange = CallWorld((3,), (3,), 4)
        two = ((), (), ((0, 0),), ((0, 0),))
        three = ((),) + (((0, 0),),) * 3
        self.assertIn(two, exchange.standings())
        self.assertEqual(exchange.open_pairs(two), [(0, 0)])
        self.assertEqual(exchange.nexts(two, (0, 0)), [three])
        self.assertEqual(exchange.moved(two, (0, 0), three), 0)
        self.assertEqual(exchange.open_pairs(three), [])
        self.assertEqual(exchange.ended(three, (0, 0), ((0, 0),)), two)
        # Four turns to the same standing are one.
        self.assertEqual(exchange.as_world().turns, ((), (0,), (1,), (2,)))

    def test_nexts_is_never_empty(self):
        doors = [row for many in (1, 2, 3) for row in itertools.combinations_with_replacement((1, 2, 3), many)]
        for ins, outs in itertools.product(doors, doors):
            try:
                exchange = CallWorld(ins, outs, degree(ins, outs))
            except TooMany:
                continue
            for lot in exchange.standings():
                for pair in exchange.open_pairs(lot):
                    self.assertGreater(len(exchange.nexts(lot, pair)), 0)

    def test_errors_of_all_exchanges(self):
        doors = [row for many in (1, 2, 3) for row in itertools.combinations_with_replacement((1, 2, 3), many)]
        seen = set()
        for ins, outs, middles in itertools.product(doors, doors, (1, 2, 3, 4)):
            told = error_of(CallWorld, ins, outs, middles)
            if middles < degree(ins, outs):
                self.assertEqual(told, (NoRoom, middles))
            elif math.comb(len(loads(len(ins), len(outs))) + middles - 1, middles) < 10000:
                many = len(lots(ins, outs, middles))
                self.assertEqual(told, None if many <= 400 else (TooMany, 400))
                seen.add(many)
        # No exchange has just 400 standings; these are the ones beside.
        self.assertEqual([max(many for many in seen if many <= 400), min(many for many in seen if many > 400)],
                         [399, 403])

    def test_too_many_standings(self):
        self.assertEqual(len(CallWorld((3, 3), (2, 3, 3), 3).standings()), 399)
        self.assertEqual(len(lots((1, 1, 2), (2, 3, 3), 3)), 403)
        for bounds in (((1, 1, 2), (2, 3, 3), 3), ((2, 3, 3), (1, 2, 1), 3), ((2, 3), (3, 3, 3), 4),
                       ((3, 3, 3), (3, 3, 3), 4), ((3, 3, 3), (3, 3, 3), 3)):
            self.assertEqual(error_of(CallWorld, *bounds), (TooMany, 400))
        # Too few middles are told first.
        self.assertEqual(error_of(CallWorld, (3, 3, 3), (3, 3, 3), 2), (NoRoom, 2))
        self.assertEqual(error_of(CallWorld, (1, 1, 3), (3, 3, 3), 2), (NoRoom, 2))

    def test_degree(self):
        # The doors of the other side bound what a switch may have.
        self.assertIsNone(error_of(CallWorld, (3,), (1,), 1))
        self.assertEqual(error_of(CallWorld, (3,), (1, 1), 1), (NoRoom, 1))
        self.assertIsNone(error_of(CallWorld, (3,), (1, 1), 2))
        self.assertIsNone(error_of(CallWorld, (1, 1), (3,), 2))
        self.assertEqual(error_of(CallWorld, (1, 1), (3,), 1), (NoRoom, 1))
        self.assertEqual(error_of(CallWorld, (2,), (3,), 1), (NoRoom, 1))

    def test_as_world(self):
        for bounds in SMALL:
            exchange = CallWorld(*bounds)
            order = lots(*bounds)

            def turns(lot):
                return [exchange.ended(lot, pair, load) for load in lot for pair in load]

            def asks(lot):
                return {"c" + "abc"[i] + "abc"[o]: {goal: exchange.moved(lot, (i, o), goal)
                                                     for goal in exchange.nexts(lot, (i, o))}
                        for i, o in exchange.open_pairs(lot)}

            world = exchange.as_world()
            self.assertIs(type(world), World)
            self.assertIsNot(world, exchange.as_world())
            check_service_world(self, world, order, ((),) * bounds[2], turns, asks)

    def test_world_functions(self):
        for seed, bounds in enumerate(SMALL):
            world = CallWorld(*bounds).as_world()
            if world.size <= 20:
                check_world_functions(self, world, seed)

    def test_costs(self):
        # With one door each nothing gives way; two calls that share a middle may have to part.
        self.assertEqual(mean(CallWorld((1,), (1,), 1).as_world()), Share(0))
        self.assertEqual(purses(CallWorld((1, 1), (1, 1), 1).as_world(), Share(0)), [0] * 7)
        self.assertTrue(Share(0).below(mean(CallWorld((2, 2), (2, 2), 2).as_world())))

    def check(self, call, args, wanted):
        check_what(self, call, args, wanted)

    def test_wrong_exchanges(self):
        near = [(1, 2, 3, 1), (0,), (4,), (True,), (1, True), (1, None), [1, 2], (1, (2,)), (1.5,), ("1",), (1, -1)]
        for value in odd_values() + near:
            if not are_doors(value):
                self.assertEqual(error_of(CallWorld, value, None, None), (BadExchange, "ins"))
                self.assertEqual(error_of(CallWorld, value, (1,), 1), (BadExchange, "ins"))
                self.assertEqual(error_of(CallWorld, (1,), value, None), (BadExchange, "outs"))
                self.assertEqual(error_of(CallWorld, (3, 3, 3), value, 4), (BadExchange, "outs"))
            if not is_count(1, 4)(value):
                self.assertEqual(error_of(CallWorld, (1,), (1,), value), (BadExchange, "middles"))
                self.assertEqual(error_of(CallWorld, (3, 3, 3), (3, 3, 3), value), (BadExchange, "middles"))
        self.assertEqual(error_of(CallWorld, (1,), (1,), 5), (BadExchange, "middles"))

    def test_wrong_standings(self):
        for bounds in (((1,), (1,), 1), ((2, 1), (1, 2), 2), ((1, 1, 1), (1, 1), 2)):
            exchange = CallWorld(*bounds)
            order = exchange.standings()
            near = [(((0, 0), (0, 0)),), (((1, 1), (0, 0)), ()), (((0, 0),), ()), (((0, 0), (0, 1)), ()), ((),) * 5,
                    (((2, 2),), ()), ((), ((0, 3),)), ((), ((-1, 0),)), (((0, 0),), ((0, 0),), ((0, 0),))]
            wrong = wrong_values(order, order[:8] + order[-4:] + near)
            wrong += [value for value in near if value not in order]
            for value in wrong:
                for call, args in ((exchange.open_pairs, ()), (exchange.nexts, (None,)), (exchange.nexts, ((0, 0),)),
                                   (exchange.moved, (None, None)), (exchange.ended, (None, None)),
                                   (exchange.ended, ((0, 0), ((0, 0),)))):
                    self.check(call, (value,) + args, (BadLot, value))

    def test_wrong_pairs(self):
        exchange = CallWorld((2, 1), (1, 2), 2)
        for lot in exchange.standings():
            pairs = open_in((2, 1), (1, 2), lot)
            all_pairs = list(itertools.product(range(3), range(3)))
            for value in wrong_values(pairs, [(0, 0), (1, 0), (0, 1), (1, 1)]) + all_pairs + [(0, 2), (-1, 0)]:
                if picture(value) not in [picture(pair) for pair in pairs]:
                    self.check(exchange.nexts, (lot, value), (BadPair, value))
                    self.check(exchange.moved, (lot, value, None), (BadPair, value))

    def test_wrong_goals(self):
        exchange = CallWorld((2, 1), (1, 2), 2)
        order = exchange.standings()
        for lot in order[:6]:
            for pair in exchange.open_pairs(lot):
                nexts = exchange.nexts(lot, pair)
                for value in wrong_values(nexts, nexts[:2]) + order:
                    if picture(value) in [picture(goal) for goal in nexts]:
                        self.assertIsNone(error_of(exchange.moved, lot, pair, value))
                    else:
                        self.check(exchange.moved, (lot, pair, value), (BadLot, value))

    def test_wrong_ends(self):
        exchange = CallWorld((2, 1), (1, 2), 2)
        every = loads(2, 2)
        for lot in exchange.standings():
            for pair in itertools.product(range(3), range(3)):
                for load in every + [((0, 0), (0, 1)), ((1, 1), (0, 0))]:
                    if load in lot and pair in load:
                        self.assertIsNone(error_of(exchange.ended, lot, pair, load))
                    else:
                        self.check(exchange.ended, (lot, pair, load), (BadPair, pair))
        lot = ((), ((0, 0), (1, 1)))
        load = ((0, 0), (1, 1))
        for value in wrong_values([(0, 0), (1, 1)], [(0, 0), (1, 1)]):
            self.check(exchange.ended, (lot, value, load), (BadPair, value))
        pair = (0, 0)
        for value in wrong_values([load], [load, ((0, 0),)]) + [()]:
            self.check(exchange.ended, (lot, pair, value), (BadPair, pair))

    def test_arguments_by_name(self):
        exchange = CallWorld(middles=2, outs=(2,), ins=(2,))
        one = ((), ((0, 0),))
        self.assertEqual(exchange.open_pairs(standing=one), [(0, 0)])
        self.assertEqual(exchange.nexts(pair=(0, 0), standing=one), [(((0, 0),), ((0, 0),))])
        self.assertEqual(exchange.moved(goal=one, pair=(0, 0), standing=((), ())), 0)
        self.assertEqual(exchange.ended(load=((0, 0),), pair=(0, 0), standing=one), ((), ()))

    def test_kinds(self):
        exchange = CallWorld((2,), (2,), 2)
        one = ((), ((0, 0),))
        self.assertEqual([type(told) for told in (exchange.standings(), exchange.open_pairs(one),
                                                  exchange.nexts(one, (0, 0)))], [list] * 3)
        self.assertEqual([type(exchange.moved(((), ()), (0, 0), one)), type(exchange.ended(one, (0, 0), ((0, 0),)))],
                         [int, tuple])
        for value in exchange.standings() + exchange.nexts(one, (0, 0)) + exchange.open_pairs(one):
            self.assertIs(type(value), tuple)


if __name__ == "__main__":
    unittest.main()
