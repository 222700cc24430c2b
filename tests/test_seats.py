"""[40], [41]: seats that are changed."""

import itertools
import random
import unittest

from neverowing.errors import BadLot, BadPlace, BadSeats, BadWish
from neverowing.purses import mean, purses
from neverowing.seats import SeatWorld
from neverowing.shares import Share
from neverowing.worlds import World
from tests.helpers import error_of, is_count, is_plain_integer, kept, odd_values, picture
from tests.services import check_service_world, check_what, check_world_functions, wrong_values


def some_wishes(seats):
    """All wishes there can be."""
    return [wish for many in range(1, seats + 1) for wish in itertools.combinations(range(seats), many)]


def boards(most):
    """All boards with so many seats at most and with 1 or 2 wishes, and some with more."""
    dice = random.Random(3)
    for seats in range(1, most + 1):
        for many in (1, 2):
            for wishes in itertools.permutations(some_wishes(seats), many):
                yield seats, wishes
        for many in (3, 4):
            if len(some_wishes(seats)) >= many:
                for _ in range(6):
                    yield seats, tuple(dice.sample(some_wishes(seats), many))


def lots(seats, wishes):
    """All holdings, by a look at all tuples."""
    rows = itertools.product(range(-1, len(wishes)), repeat=seats)
    return sorted(row for row in rows if all(wish == -1 or seat in wishes[wish] for seat, wish in enumerate(row)))


def seated(lot):
    return sorted(wish for wish in lot if wish >= 0)


def price(lot, goal):
    return sum(1 for seat in range(len(lot)) if lot[seat] >= 0 and goal[seat] != lot[seat])


def are_wishes(value, seats):
    if type(value) is not tuple or not 1 <= len(value) <= 4:
        return False
    return all(type(wish) is tuple and all(map(is_plain_integer, wish)) and wish in some_wishes(seats)
               for wish in value) and len(set(value)) == len(value)


class SeatTest(unittest.TestCase):
    def test_example(self):
        board = SeatWorld(2, ((0, 1), (0,)))
        self.assertEqual([board.nexts((0, -1), 1), board.moved((0, -1), 1, (1, 0)), board.nexts((1, -1), 1),
                          board.left((1, 0), 0)], [[(1, 0)], 1, [], (-1, 0)])

    def test_methods(self):
        for bounds in boards(3):
            board = SeatWorld(*bounds)
            order = lots(*bounds)
            self.assertEqual((board.seats, board.wishes), bounds)
            self.assertEqual(kept(board.standings), order)
            for lot in order:
                for wish in range(len(bounds[1])):
                    nexts = [goal for goal in order if seated(goal) == sorted(seated(lot) + [wish])]
                    self.assertEqual(kept(board.nexts, lot, wish), nexts)
                    for goal in nexts:
                        self.assertEqual(board.moved(lot, wish, goal), price(lot, goal))
                for seat in range(bounds[0]):
                    if lot[seat] >= 0:
                        rest = list(lot)
                        rest[seat] = -1
                        self.assertEqual(board.left(lot, seat), tuple(rest))

    def test_four_seats(self):
        dice = random.Random(5)
        for many in (1, 2, 3, 4, 4, 4):
            wishes = tuple(dice.sample(some_wishes(4), many))
            board = SeatWorld(4, wishes)
            order = lots(4, wishes)
            self.assertEqual(board.standings(), order)
            for lot in dice.sample(order, min(12, len(order))):
                for wish in range(many):
                    nexts = [goal for goal in order if seated(goal) == sorted(seated(lot) + [wish])]
                    self.assertEqual(board.nexts(lot, wish), nexts)
                    for goal in nexts:
                        self.assertEqual(board.moved(lot, wish, goal), price(lot, goal))

    def test_at_most_320_holdings(self):
        most = 0
        for wishes in itertools.combinations(some_wishes(4), 4):
            many = len(lots(4, wishes)) if sum(map(len, wishes)) > 11 else 0
            most = max(most, many)
            if many > 200:
                self.assertEqual(len(SeatWorld(4, wishes).standings()), many)
        self.assertEqual(most, 320)
        self.assertEqual(SeatWorld(4, ((0, 1, 2, 3), (0, 1, 2), (0, 1, 3), (0, 2, 3))).as_world().size, 320)

    def test_wish_that_cannot_be_seated(self):
        board = SeatWorld(2, ((0, 1), (0,)))
        # One seat is held by a wish that wants no other one.
        self.assertEqual(board.nexts((1, -1), 1), [])
        self.assertEqual(board.nexts((0, 0), 0), [])
        self.assertEqual(board.nexts((1, -1), 0), [(1, 0)])
        world = board.as_world()
        order = board.standings()
        self.assertEqual(world.asked(order.index((1, -1))), ["wa"])
        self.assertEqual(world.asked(order.index((0, 0))), [])

    def test_moves(self):
        board = SeatWorld(3, ((0, 1, 2), (0, 1)))
        # Another wish on a held seat counts once for the seat, and a seat that gets empty counts.
        self.assertEqual(board.moved((0, 1, -1), 0, (1, 0, 0)), 2)
        self.assertEqual(board.moved((0, 1, -1), 0, (0, 1, 0)), 0)
        self.assertEqual(board.moved((0, -1, -1), 1, (-1, 1, 0)), 1)
        self.assertEqual(board.moved((0, -1, -1), 1, (1, -1, 0)), 1)
        # Wishes of one number are alike, so a seat that goes from one to the other does not change.
        self.assertEqual(board.moved((0, 0, -1), 0, (0, 0, 0)), 0)
        self.assertEqual(board.nexts((0, 0, -1), 0), [(0, 0, 0)])
        self.assertEqual(board.nexts((-1, 0, 0), 1), [(0, 1, 0), (1, 0, 0)])

    def test_as_world(self):
        for bounds in boards(3):
            board = SeatWorld(*bounds)
            seats, wishes = bounds

            def turns(lot):
                return [board.left(lot, seat) for seat in range(seats) if lot[seat] >= 0]

            def asks(lot):
                return {"w" + "abcd"[wish]: {goal: board.moved(lot, wish, goal) for goal in board.nexts(lot, wish)}
                        for wish in range(len(wishes)) if board.nexts(lot, wish)}

            world = board.as_world()
            self.assertIs(type(world), World)
            check_service_world(self, world, lots(*bounds), (-1,) * seats, turns, asks)

    def test_world_functions(self):
        for seed, bounds in enumerate(boards(2)):
            check_world_functions(self, SeatWorld(*bounds).as_world(), seed)
        for bounds in ((3, ((0, 1), (1, 2))), (3, ((0, 1, 2), (0,))), (4, ((0, 1), (1, 2), (2, 3)))):
            world = SeatWorld(*bounds).as_world()
            if world.size <= 24:
                check_world_functions(self, world)

    def test_costs(self):
        self.assertEqual(mean(SeatWorld(1, ((0,),)).as_world()), Share(0))
        self.assertEqual(purses(SeatWorld(3, ((0, 1, 2),)).as_world(), Share(0)), [0] * 8)
        self.assertTrue(Share(0).below(mean(SeatWorld(2, ((0, 1), (0,), (1,))).as_world())))

    def test_bounds(self):
        for seats in range(-1, 7):
            told = error_of(SeatWorld, seats, ((0,),))
            self.assertEqual(told, None if 1 <= seats <= 4 else (BadSeats, "seats"))
            for wish in range(-1, 6):
                told = error_of(SeatWorld, seats, ((wish,),))
                wanted = (BadSeats, "wishes") if not 0 <= wish < seats else None
                self.assertEqual(told, wanted if 1 <= seats <= 4 else (BadSeats, "seats"))

    def test_wrong_boards(self):
        near = [((0, 1), (0, 1)), ((0,), ()), ((1, 0),), ((0, 0),), ((0, True),), ((False,),), ((True,),), ([0],),
                [(0,)], ((0,), None), ((0,), (1,), (0, 1), (0,)), ((0, 2),), ((-1, 0),), (0, 1), ("0",), ((0,), "1")]
        near += [((0,), (1,), (2,), (0, 1), (0, 2))]
        for value in odd_values() + near:
            for seats in (1, 2, 3):
                wanted = None if are_wishes(value, seats) else (BadSeats, "wishes")
                self.assertEqual(error_of(SeatWorld, seats, value), wanted)
            if not is_count(1, 4)(value):
                self.assertEqual(error_of(SeatWorld, value, ((0,),)), (BadSeats, "seats"))
                self.assertEqual(error_of(SeatWorld, value, None), (BadSeats, "seats"))

    def check(self, call, args, wanted):
        check_what(self, call, args, wanted)

    def test_wrong_holdings(self):
        for bounds in ((1, ((0,),)), (2, ((0, 1), (0,))), (3, ((0, 2), (1,)))):
            board = SeatWorld(*bounds)
            order = board.standings()
            near = [(1, 1), (-1, 1), (-2, 0), (2, -1), (0,), (0, 0, 0, 0), (-1,) * 4]
            for value in wrong_values(order, order) + [value for value in near if value not in order]:
                for call, args in ((board.nexts, (None,)), (board.nexts, (0,)), (board.moved, (None, None)),
                                   (board.moved, (0, (0, 0))), (board.left, (None,)), (board.left, (0,))):
                    self.check(call, (value,) + args, (BadLot, value))

    def test_wrong_wishes(self):
        board = SeatWorld(2, ((0, 1), (0,)))
        for lot in board.standings():
            for value in odd_values() + [2, -2]:
                if is_plain_integer(value) and value in (0, 1):
                    self.assertIsNone(error_of(board.nexts, lot, value))
                else:
                    self.check(board.nexts, (lot, value), (BadWish, value))
                    self.check(board.moved, (lot, value, None), (BadWish, value))

    def test_wrong_goals(self):
        board = SeatWorld(3, ((0, 1), (1, 2)))
        order = board.standings()
        for lot in order:
            for wish in (0, 1):
                nexts = board.nexts(lot, wish)
                for value in wrong_values(nexts, nexts[:1]) + order:
                    if picture(value) in [picture(goal) for goal in nexts]:
                        self.assertIsNone(error_of(board.moved, lot, wish, value))
                    else:
                        self.check(board.moved, (lot, wish, value), (BadLot, value))

    def test_wrong_seats(self):
        board = SeatWorld(2, ((0, 1), (0,)))
        for lot in board.standings():
            held = [seat for seat in (0, 1) if lot[seat] >= 0]
            for value in odd_values() + [2, -2]:
                if is_plain_integer(value) and value in held:
                    self.assertIsNone(error_of(board.left, lot, value))
                else:
                    self.check(board.left, (lot, value), (BadPlace, value))

    def test_arguments_by_name(self):
        board = SeatWorld(wishes=((0, 1), (0,)), seats=2)
        self.assertEqual(board.nexts(wish=1, holding=(0, -1)), [(1, 0)])
        self.assertEqual(board.moved(goal=(1, 0), wish=1, holding=(0, -1)), 1)
        self.assertEqual(board.left(seat=0, holding=(1, 0)), (-1, 0))

    def test_kinds(self):
        board = SeatWorld(2, ((0, 1), (0,)))
        self.assertEqual([type(board.standings()), type(board.nexts((0, -1), 1)), type(board.nexts((1, -1), 1))],
                         [list] * 3)
        self.assertEqual([type(board.moved((0, -1), 1, (1, 0))), type(board.left((1, 0), 0))], [int, tuple])
        board.nexts((1, -1), 1).append((0, 0))
        self.assertEqual(board.nexts((1, -1), 1), [])


if __name__ == "__main__":
    unittest.main()
