"""[42], [43]: helpers in rooms."""

import itertools
import random
import unittest

from neverowing.errors import BadLot, BadRecipes, BadValue
from neverowing.helpers import HelperWorld
from neverowing.purses import mean, purses
from neverowing.shares import Share
from neverowing.worlds import World
from tests.helpers import error_of, is_count, is_plain_integer, kept, odd_values, picture
from tests.services import check_service_world, check_what, check_world_functions, wrong_values

CHAIN = (((),), ((0,),), ((1,),), ((2,),), ((3,),))


def some_recipes(value):
    """All recipes of a value there can be."""
    return [recipe for many in range(value + 1) for recipe in itertools.combinations(range(value), many)]


def houses():
    """Rooms with 1 to 5 values, some of them picked by chance."""
    yield from (((((),),), rooms) for rooms in (1, 5))
    for many in (1, 2):
        for one in itertools.permutations(some_recipes(1), many):
            yield from (((((),), one), rooms) for rooms in (1, 2, 3))
    yield from ((CHAIN, rooms) for rooms in range(1, 6))
    dice = random.Random(7)
    for _ in range(60):
        rows = [tuple(dice.sample(some_recipes(value), dice.randint(1, min(3, len(some_recipes(value))))))
                for value in range(dice.randint(3, 5))]
        yield tuple(rows), dice.randint(1, 5)


def follows(recipes, rooms, lot, goal):
    """True if one deed leads from the lot to the goal, both sets."""
    other = lot ^ goal
    if len(other) != 1 or len(lot | goal) > rooms:
        return False
    return any(set(recipe) <= lot & goal for recipe in recipes[min(other)])


def distances(recipes, rooms):
    """The least number of deeds between all lots, by a look at all pairs; no entry where there is no way."""
    lots = [frozenset(lot) for many in range(rooms + 1) for lot in itertools.combinations(range(len(recipes)), many)]
    near = {lot: [goal for goal in lots if follows(recipes, rooms, lot, goal)] for lot in lots}
    told = {}
    for lot in lots:
        layer, far = [lot], 0
        told[lot, lot] = 0
        while layer:
            far += 1
            layer = list(dict.fromkeys(goal for one in layer for goal in near[one] if (lot, goal) not in told))
            for goal in layer:
                told[lot, goal] = far
    return {(tuple(sorted(lot)), tuple(sorted(goal))): far for (lot, goal), far in told.items()}


def are_recipes(value):
    if type(value) is not tuple or not 1 <= len(value) <= 5:
        return False
    for number, row in enumerate(value):
        if type(row) is not tuple or not 1 <= len(row) <= 3:
            return False
        if not all(type(one) is tuple and all(map(is_plain_integer, one)) for one in row):
            return False
        if len(set(row)) < len(row) or not all(one in some_recipes(number) for one in row):
            return False
    return True


class RoomTest(unittest.TestCase):
    def test_example(self):
        rooms = HelperWorld((((),), ((0,),)), 2)
        self.assertEqual([rooms.standings(), rooms.deeds((), (1,)), rooms.way((), (1,)), rooms.nexts((), 1),
                          rooms.makeable()], [[(), (0,), (0, 1), (1,)], 3, [0, 1, 0], [(0, 1), (1,)], [0, 1]])

    def test_methods(self):
        for bounds in houses():
            house = HelperWorld(*bounds)
            far = distances(*bounds)
            order = sorted(goal for lot, goal in far if lot == ())
            self.assertEqual((house.recipes, house.rooms), bounds)
            self.assertEqual(kept(house.standings), order)
            makeable = sorted({value for lot in order for value in lot})
            self.assertEqual(kept(house.makeable), makeable)
            for lot in order:
                for goal in order:
                    self.assertEqual(house.deeds(lot, goal), far[lot, goal])
                for value in makeable:
                    self.assertEqual(kept(house.nexts, lot, value), [goal for goal in order if value in goal])

    def test_ways(self):
        for bounds in houses():
            house = HelperWorld(*bounds)
            for lot, goal in itertools.product(house.standings(), repeat=2):
                way = house.way(lot, goal)
                self.assertIs(type(way), list)
                self.assertEqual(len(way), house.deeds(lot, goal))
                now = frozenset(lot)
                for value in way:
                    self.assertIs(type(value), int)
                    self.assertTrue(follows(bounds[0], bounds[1], now, now ^ {value}))
                    now ^= {value}
                self.assertEqual(now, frozenset(goal))
                way.append(0)
                self.assertEqual(len(house.way(lot, goal)), house.deeds(lot, goal))

    def test_facts(self):
        for bounds in houses():
            house = HelperWorld(*bounds)
            order = house.standings()
            far = {(lot, goal): house.deeds(lot, goal) for lot in order for goal in order}
            for one, two, three in itertools.product(order, repeat=3):
                self.assertEqual(far[one, two], far[two, one])
                self.assertLessEqual(far[one, three], far[one, two] + far[two, three])

    def test_chains(self):
        # One room more comes twice as far and one further: 1, 3, 7 .. values.
        self.assertEqual([HelperWorld(CHAIN, rooms).makeable() for rooms in (1, 2, 3)],
                         [[0], [0, 1, 2], [0, 1, 2, 3, 4]])
        self.assertEqual(HelperWorld(CHAIN, 5).makeable(), [0, 1, 2, 3, 4])
        self.assertEqual(HelperWorld(CHAIN, 3).deeds((), (3,)), 9)
        self.assertEqual(HelperWorld(CHAIN, 5).deeds((), (3,)), 7)
        self.assertEqual(HelperWorld(CHAIN, 1).standings(), [(), (0,)])

    def test_several_recipes(self):
        # A value that is made one way may be cleaned out another way.
        house = HelperWorld((((),), ((),), ((0,), (1,))), 2)
        self.assertEqual(house.deeds((0, 2), (1,)), 3)
        self.assertEqual(house.deeds((0,), (2,)), 2)
        self.assertEqual(HelperWorld((((),), ((),), ((0, 1), ())), 1).standings(), [(), (0,), (1,), (2,)])
        self.assertEqual(HelperWorld((((),), ((0,), ())), 1).makeable(), [0, 1])
        self.assertEqual(HelperWorld((((),), ((),), ((0, 1),)), 2).makeable(), [0, 1])

    def test_no_more_values_than_rooms(self):
        for rooms in range(1, 6):
            lots = HelperWorld((((),),) * 5, rooms).standings()
            self.assertEqual(max(map(len, lots)), rooms)
            self.assertEqual(lots, sorted(lot for many in range(rooms + 1)
                                          for lot in itertools.combinations(range(5), many)))

    def test_as_world(self):
        for bounds in houses():
            house = HelperWorld(*bounds)

            def asks(lot):
                return {"v" + "abcde"[value]: {goal: house.deeds(lot, goal) for goal in house.nexts(lot, value)}
                        for value in house.makeable()}

            world = house.as_world()
            self.assertIs(type(world), World)
            check_service_world(self, world, house.standings(), (), lambda lot: [], asks)
            for number, lot in enumerate(house.standings()):
                for value in lot:
                    self.assertEqual(world.price(number, "v" + "abcde"[value], number), 0)

    def test_world_functions(self):
        for seed, bounds in enumerate(houses()):
            world = HelperWorld(*bounds).as_world()
            if world.size <= 12:
                check_world_functions(self, world, seed)

    def test_costs(self):
        self.assertEqual(mean(HelperWorld((((),), ((),)), 2).as_world()), Share(0))
        self.assertEqual(purses(HelperWorld((((),),), 1).as_world(), Share(0)), [1, 0])
        # In one room two values take turns: one goes out, the other one comes in.
        self.assertEqual(mean(HelperWorld((((),), ((),)), 1).as_world()), Share(2))

    def test_bounds(self):
        for many in range(0, 7):
            for rooms in range(-1, 8):
                wanted = (BadRecipes, "rooms") if not 1 <= rooms <= 5 else None
                told = error_of(HelperWorld, (((),),) * many, rooms)
                self.assertEqual(told, wanted if 1 <= many <= 5 else (BadRecipes, "recipes"))
        for value in range(1, 5):
            for many in range(0, 5):
                rows = (((),),) * value + (tuple(some_recipes(value)[:many]),)
                wanted = None if 1 <= min(many, len(some_recipes(value))) <= 3 else (BadRecipes, "recipes")
                self.assertEqual(error_of(HelperWorld, rows, 3), wanted)

    def test_wrong_rooms(self):
        right = (((),), ((0,), ()), ((), (0, 1)))
        near = [(((0,),),), (((),), ((1,),)), (((),), ((0,), (0,))), (((), ()),), (((),), ()), ((),), (((),), ((0, 0),)),
                (((),), ((),), ((1, 0),)), (((),), ((False,),)), (((),), ((),), ((True,),)), ([()],), (([],),),
                (((),), (0,)), (((),), None), (((),), ((0,), None)), (((),), ((-1,),)), (("",),), (((),), "a")]
        for value in wrong_values([], [right]) + near + [right, (((),),)]:
            wanted = None if are_recipes(value) else (BadRecipes, "recipes")
            self.assertEqual(error_of(HelperWorld, value, 2), wanted, value)
            if wanted is not None:
                self.assertEqual(error_of(HelperWorld, value, None), wanted)
            if not is_count(1, 5)(value):
                self.assertEqual(error_of(HelperWorld, right, value), (BadRecipes, "rooms"))

    def check(self, call, args, wanted):
        check_what(self, call, args, wanted)

    def test_wrong_lots(self):
        for bounds in ((CHAIN[:2], 1), (CHAIN[:3], 2), (CHAIN, 3)):
            house = HelperWorld(*bounds)
            order = house.standings()
            every = [lot for many in range(6) for lot in itertools.combinations(range(6), many)]
            near = [lot for lot in every if lot not in order] + [(1, 0), (0, 0), (-1,)]
            for value in wrong_values(order, order[:6]) + near:
                for call, args in ((house.deeds, (None,)), (house.deeds, ((),)), (house.nexts, (None,)),
                                   (house.nexts, (0,)), (house.way, (None,)), (house.way, ((),))):
                    self.check(call, (value,) + args, (BadLot, value))
                self.check(house.deeds, ((), value), (BadLot, value))
                self.check(house.way, ((0,), value), (BadLot, value))

    def test_wrong_values(self):
        for bounds in ((CHAIN[:2], 1), (CHAIN, 3)):
            house = HelperWorld(*bounds)
            for value in odd_values() + [3, 4, 5, -2]:
                if picture(value) in [picture(one) for one in house.makeable()]:
                    self.assertIsNone(error_of(house.nexts, (0,), value))
                else:
                    self.check(house.nexts, ((0,), value), (BadValue, value))

    def test_arguments_by_name(self):
        house = HelperWorld(rooms=2, recipes=(((),), ((0,),)))
        self.assertEqual(house.deeds(goal=(1,), lot=()), 3)
        self.assertEqual(house.nexts(value=1, lot=()), [(0, 1), (1,)])
        self.assertEqual(house.way(goal=(1,), lot=()), [0, 1, 0])

    def test_kinds(self):
        house = HelperWorld((((),), ((0,),)), 2)
        self.assertEqual([type(told) for told in (house.standings(), house.makeable(), house.nexts((), 0),
                                                  house.way((), ()))], [list] * 4)
        self.assertIs(type(house.deeds((), ())), int)


if __name__ == "__main__":
    unittest.main()
