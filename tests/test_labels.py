"""[35], [36]: labels with gaps."""

import itertools
import unittest

from neverowing.errors import BadCount, BadGap, BadLot, BadPlace
from neverowing.labels import LabelWorld
from neverowing.purses import mean, purses
from neverowing.shares import Share
from neverowing.worlds import World
from tests.helpers import check_errors, error_of, is_count, is_plain_integer, kept, odd_values

BOUNDS = [(things, labels) for things in range(1, 5) for labels in range(things, 8)]
SMALL = [(things, labels) for things, labels in BOUNDS if labels < 6]


def lots(things, labels):
    """All standings, by a look at all tuples."""
    found = [lot for many in range(things + 1) for lot in itertools.product(range(labels), repeat=many)
             if list(lot) == sorted(set(lot))]
    return sorted(found, key=lambda lot: (len(lot), lot))


def wrong_lots(things, labels):
    """Values that are no standings, many of them nearly one."""
    near = [(-1,), (labels,), (0, 0), (1, 0), tuple(range(things + 1)), (True,), (False,), (0, True), (False, 1),
            (None,), ("0",), [], [0], [0, 1], {0: 1}, ((0,),), (0, None), (Share(0),), (10 ** 30,), "01"]
    return [value for value in odd_values() + near if not is_lot(value, things, labels)]


def is_lot(value, things, labels):
    if type(value) is not tuple or not all(is_plain_integer(label) for label in value):
        return False
    return value in lots(things, labels)


def price(standing, gap, goal):
    """How many of the things change their label, the newcomer left out."""
    others = list(goal)
    del others[gap]
    return sum(old != new for old, new in zip(standing, others))


class LabelTest(unittest.TestCase):
    def test_example(self):
        row = LabelWorld(2, 3)
        self.assertEqual([row.standings(), row.moved((1,), 0, (0, 1)), row.moved((0,), 0, (0, 1)), row.left((0, 2), 0)],
                         [[(), (0,), (1,), (2,), (0, 1), (0, 2), (1, 2)], 0, 1, (2,)])

    def test_standings(self):
        for things, labels in BOUNDS:
            row = LabelWorld(things, labels)
            self.assertEqual([row.things, row.labels], [things, labels])
            self.assertEqual(kept(row.standings), lots(things, labels))

    def test_methods(self):
        for things, labels in SMALL:
            row = LabelWorld(things, labels)
            for standing in lots(things, labels):
                gaps = list(range(len(standing) + 1)) if len(standing) < things else []
                self.assertEqual(kept(row.gaps, standing), gaps)
                for place in range(len(standing)):
                    rest = list(standing)
                    del rest[place]
                    self.assertEqual(row.left(standing, place), tuple(rest))
                for gap in gaps:
                    nexts = [lot for lot in lots(things, labels) if len(lot) == len(standing) + 1]
                    self.assertEqual(kept(row.nexts, standing, gap), nexts)
                    for goal in nexts:
                        self.assertEqual(row.moved(standing, gap, goal), price(standing, gap, goal))

    def test_worlds(self):
        for things, labels in BOUNDS:
            world = LabelWorld(things, labels).as_world()
            self.assertIs(type(world), World)
            order = lots(things, labels)
            numbers = {lot: k for k, lot in enumerate(order)}
            self.assertEqual([world.size, world.start], [len(order), 0])
            for number, standing in enumerate(order):
                left = {numbers[standing[:k] + standing[k + 1:]] for k in range(len(standing))}
                self.assertEqual(world.turns[number], tuple(sorted(left)))
                gaps = range(len(standing) + 1) if len(standing) < things else ()
                self.assertEqual(world.asked(number), ["g" + "abcde"[gap] for gap in gaps])
                for gap in gaps:
                    answers = [(numbers[lot], price(standing, gap, lot)) for lot in order
                               if len(lot) == len(standing) + 1]
                    self.assertEqual(world.answers(number, "g" + "abcde"[gap]), sorted(answers))

    def test_service_and_world_agree(self):
        row = LabelWorld(3, 4)
        world = row.as_world()
        order = row.standings()
        for number, standing in enumerate(order):
            for gap in row.gaps(standing):
                for goal in row.nexts(standing, gap):
                    self.assertEqual(world.price(number, "g" + "abcde"[gap], order.index(goal)),
                                     row.moved(standing, gap, goal))

    def test_costs(self):
        # One thing never moves; with as many labels as things the newcomer moves what is in its way.
        self.assertEqual(mean(LabelWorld(1, 1).as_world()), Share(0))
        self.assertEqual(purses(LabelWorld(1, 3).as_world(), Share(0)), [0, 0, 0, 0])
        self.assertEqual(mean(LabelWorld(2, 2).as_world()), Share(1))

    def test_bounds(self):
        for things in range(-1, 7):
            for labels in range(-1, 10):
                wanted = None
                if not 1 <= things <= 4:
                    wanted = (BadCount, things)
                elif not things <= labels <= 7:
                    wanted = (BadCount, labels)
                self.assertEqual(error_of(LabelWorld, things, labels), wanted)

    def test_wrong_bounds(self):
        check_errors(self, LabelWorld, {"things": 2, "labels": 4}, [
            ("things", is_count(1, 4), BadCount), ("labels", is_count(2, 7), BadCount)])

    def check(self, call, args, wanted):
        error, what = error_of(call, *args)
        self.assertIs(error, wanted[0])
        self.assertIs(what, wanted[1])

    def test_wrong_standings(self):
        for things, labels in ((1, 1), (2, 3), (4, 7)):
            row = LabelWorld(things, labels)
            for value in wrong_lots(things, labels):
                for call, args in ((row.gaps, ()), (row.nexts, (None,)), (row.moved, (None, None)), (row.left, (None,)),
                                   (row.nexts, (0,)), (row.moved, (0, (0,))), (row.left, (0,))):
                    self.check(call, (value,) + args, (BadLot, value))

    def test_wrong_gaps(self):
        row = LabelWorld(2, 3)
        for standing, gaps in (((), [0]), ((1,), [0, 1]), ((0, 2), [])):
            for value in odd_values() + [3, -2]:
                if is_plain_integer(value) and value in gaps:
                    self.assertIsNone(error_of(row.nexts, standing, value))
                else:
                    self.check(row.nexts, (standing, value), (BadGap, value))
                    self.check(row.moved, (standing, value, None), (BadGap, value))

    def test_wrong_goals(self):
        row = LabelWorld(3, 4)
        for value in wrong_lots(3, 4) + [(), (0,), (3,), (0, 1, 2), (1, 2, 3), (0, 4), (-1, 0), (2, 1)]:
            self.check(row.moved, ((1,), 1, value), (BadLot, value))
        self.assertEqual(row.moved((1,), 1, (0, 1)), 1)
        self.assertEqual(row.moved((1,), 1, (1, 2)), 0)

    def test_wrong_places(self):
        row = LabelWorld(2, 3)
        for standing in ((), (1,), (0, 2)):
            for value in odd_values() + [3, -2]:
                if is_plain_integer(value) and 0 <= value < len(standing):
                    self.assertIsNone(error_of(row.left, standing, value))
                else:
                    self.check(row.left, (standing, value), (BadPlace, value))

    def test_arguments_by_name(self):
        row = LabelWorld(labels=3, things=2)
        self.assertEqual(row.gaps(standing=(1,)), [0, 1])
        self.assertEqual(row.nexts(gap=0, standing=()), [(0,), (1,), (2,)])
        self.assertEqual(row.moved(goal=(0, 1), gap=0, standing=(1,)), 0)
        self.assertEqual(row.left(place=1, standing=(0, 2)), (0,))

    def test_kinds(self):
        row = LabelWorld(2, 3)
        self.assertEqual([type(told) for told in (row.standings(), row.gaps(()), row.nexts((), 0))], [list] * 3)
        self.assertEqual([type(row.moved((), 0, (1,))), type(row.left((1,), 0))], [int, tuple])


if __name__ == "__main__":
    unittest.main()
