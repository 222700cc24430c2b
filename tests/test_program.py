"""The program as a whole: what the modules promise of each other's objects, and the rules for all functions."""

import inspect
import random
import unittest

from neverowing import errors
from neverowing.ahead import best_plan, frugal_plan, least_purse, least_total, plan_fault
from neverowing.calls import CallWorld
from neverowing.diaries import can_be, count_fit, ends_that_fit, fitting_run, foretold, greatest_purse, paid
from neverowing.errors import OweError
from neverowing.helpers import HelperWorld
from neverowing.house import House
from neverowing.joins import join_foe, join_income, join_keeper
from neverowing.labels import LabelWorld
from neverowing.papers import foe_fault, foe_paper, keeper_fault, keeper_paper, play
from neverowing.purses import grain, income_at, ladder, mean, purse, purse_for, purses
from neverowing.rules import Rule, breaking, follows, rule_world
from neverowing.seats import SeatWorld
from neverowing.shares import Share
from neverowing.texts import diary_text, read_diary, read_row, read_world, row_text, world_text
from neverowing.wholes import Behind, Side, Step
from neverowing.worlds import World
from neverowing.worths import best_answer, best_ask, worth, worths
from tests.helpers import error_of, example, kept, nested, odd_values, picture, random_links, random_world
from tests.services import check_world_functions
from tests.test_ahead import all_plans, fallen, frugal, need, prices_along, total
from tests.test_diaries import best_rest, runs_that_fit
from tests.test_texts import plain_world_text

HALF = Share(3, 2)
LINKS = {("go", 0): "go", ("go", 1): "go"}
DIARY = [("go", None), (None, 0)]
ROW = ["go", "stay", "go"]
TABLE = {(0, "go"): 1, (1, "go"): 0}
MOVES = {0: (0, "go"), 1: (1, "go")}


def services():
    return [LabelWorld(2, 2), LabelWorld(2, 3), CallWorld((2,), (2,), 2), CallWorld((1, 1), (1, 1), 1),
            SeatWorld(2, ((0, 1), (0,))), SeatWorld(2, ((0,), (1,), (0, 1))), HelperWorld((((),), ((0,),)), 2),
            HelperWorld((((),), ((),), ((0,), (1,))), 2)]


def worlds():
    """Small worlds of all makes."""
    w = example()
    served = [service.as_world() for service in services()]
    made = [Side([w, w]).world, Step([w, w]).world, Behind(w, w, LINKS).world, Side([served[0], w]).world,
            Step([w, w.with_start(1), w]).world, Side([w, w]).world.renamed((3, 1, 0, 2)), w.scaled(3)]
    made += [rule_world(Rule(world, choice)) for world in (w, served[0], served[6])
             for choice in ("first", "cheapest", ("height", mean(world)))]
    dice = random.Random(11)
    for seed in range(6):
        first, second = random_world(seed), example()
        made.append(Behind(first, second, random_links(dice, first, second)).world)
    return [world for world in served + made if world.size <= 16]


def random_row(dice, world, most):
    return [dice.choice(world.names() + ["zz"]) for _ in range(dice.randint(0, most))]


def random_items(dice, world, most):
    diary = []
    for _ in range(dice.randint(0, most)):
        diary.append((dice.choice([None, dice.choice(world.names())]), dice.choice([None, None, 0, 1])))
    return diary


class WorldsOfAllMakesTest(unittest.TestCase):
    def test_worths_purses_and_papers(self):
        for seed, world in enumerate(worlds()):
            check_world_functions(self, world, seed)

    def test_diaries(self):
        for seed, world in enumerate(worlds()):
            dice = random.Random(seed)
            for _ in range(3):
                diary = random_items(dice, world, 2)
                start = dice.randrange(world.size)
                runs = runs_that_fit(world, diary, start)
                totals = [sum(step[3] for step in run) for run in runs]
                self.assertEqual(count_fit(world, diary, start=start), len(runs))
                self.assertEqual(paid(world, diary, start=start), (min(totals), max(totals)) if runs else None)
                self.assertEqual(ends_that_fit(world, diary, start=start),
                                 sorted({run[-1][2] if run else start for run in runs}))
                self.assertEqual(greatest_purse(world, diary, mean(world), 2, start=start),
                                 best_rest(world, diary, mean(world), 2, start))
                self.assertEqual(read_diary(diary_text(diary)), diary)

    def test_rows(self):
        for seed, world in enumerate(worlds()):
            dice = random.Random(seed)
            for _ in range(3):
                row = random_row(dice, world, 3)
                start = dice.randrange(world.size)
                best = min((fallen(prices), total(prices)) for _, prices in all_plans(world, row, start))
                self.assertEqual(least_total(world, row, start=start), best)
                self.assertIsNone(plan_fault(world, row, best_plan(world, row, start=start), start=start))
                income = mean(world)
                least = least_purse(world, row, income, start=start)
                self.assertEqual(least, frugal(world, row, income, start))
                plan = frugal_plan(world, row, income, start=start)
                self.assertEqual(need(world, row, income, prices_along(world, row, plan, start)), least)
                self.assertEqual(read_row(row_text(row)), row)

    def test_houses(self):
        for seed, world in enumerate(worlds()):
            dice = random.Random(seed)
            income = mean(world)
            house = House(world, income, purse(world, income))
            for _ in range(30):
                turns, names = world.turns[house.standing], world.asked(house.standing)
                if turns and (not names or dice.random() < 0.4):
                    house.turn(dice.choice(turns))
                else:
                    house.ask(dice.choice(names))
                self.assertTrue(house.is_safe())
            self.assertEqual(len(house), 30)

    def test_diary_of_a_house(self):
        for seed, world in enumerate(worlds()):
            dice = random.Random(seed)
            income = mean(world) + Share(1)
            begin = purse(world, income)
            house = House(world, income, begin)
            diary = []
            while len(diary) < 20:
                turns, names = world.turns[house.standing], world.asked(house.standing)
                if turns and (not names or dice.random() < 0.3):
                    house.turn(dice.choice(turns))
                else:
                    name = dice.choice(names)
                    diary.append((name, house.ask(name)[1]))
            self.assertTrue(can_be(world, diary))
            ends = ends_that_fit(world, diary)
            self.assertTrue(any(house.standing in world.by_turns(end) for end in ends))
            self.assertGreaterEqual(greatest_purse(world, diary, income, begin), house.purse)
            self.assertEqual(paid(world, diary), (house.paid, house.paid))
            self.assertEqual(len(fitting_run(world, diary)), 20)
            for name in world.asked(house.standing):
                self.assertTrue(foretold(world, diary, name)[0])

    def test_texts(self):
        for world in worlds():
            text = world_text(world)
            self.assertEqual(text, plain_world_text(world))
            self.assertEqual(picture(read_world(text)), picture(world))
            self.assertEqual(purses(read_world(text), mean(world)), purses(world, mean(world)))

    def test_rules(self):
        for world in worlds():
            income = mean(world)
            heights, table = keeper_paper(world, income)
            rule = Rule(world, ("height", income))
            self.assertIsNone(breaking(rule, income, heights[world.start]))
            self.assertEqual(purses(rule_world(rule), income), purses(world, income))
            self.assertTrue(follows(rule, rule.table()))
            whole_table = {**rule.table(), **table}
            self.assertIsNone(breaking(Rule(world, whole_table), income, heights[world.start]))
            self.assertTrue(follows(Rule(world, whole_table), table))

    def test_play_of_papers(self):
        for world in worlds():
            income = mean(world)
            least = purse(world, income)
            table = Rule(world, ("height", income)).table()
            moves = foe_paper(world, income, least)[2]
            sums = [0]
            for _, _, _, change in play(world, income, table, moves, 60):
                sums.append(sums[-1] + change)
            self.assertEqual(min(sums), -least)


class WholesOfAllMakesTest(unittest.TestCase):
    def wholes(self):
        w = example()
        parts = [world for world in worlds() if world.size <= 6] + [w]
        dice = random.Random(12)
        for _ in range(25):
            yield Side(dice.sample(parts, 2))
            first, second = dice.choice(parts), dice.choice(parts)
            links = random_links(dice, first, second)
            if links is not None:
                yield Behind(first, second, links)
            one = dice.choice(parts)
            try:
                yield Step([one, one.with_start(dice.randrange(one.size))])
            except errors.BadWhole:
                continue

    def test_papers_of_wholes(self):
        kinds = set()
        for whole in self.wholes():
            kinds.add(type(whole))
            incomes = [mean(part) + Share(1, 3) for part in whole.parts]
            income = join_income(whole, incomes)
            papers = [keeper_paper(part, income) for part, income in zip(whole.parts, incomes)]
            heights, table = join_keeper(whole, incomes, papers)
            world = whole.world
            self.assertIsNone(keeper_fault(world, income, heights[world.start], heights, table))
            self.assertLessEqual(purse(world, income), heights[world.start])
            if isinstance(whole, Side):
                foes = [foe_paper(part, income, purse(part, income)) for part, income in zip(whole.parts, incomes)]
                lows, ranks, moves = join_foe(whole, incomes, foes)
                self.assertIsNone(foe_fault(world, income, lows[world.start], lows, ranks, moves))
                self.assertEqual([purse(world, income)] * 2, [lows[world.start], heights[world.start]])
        self.assertEqual(kinds, {Side, Step, Behind})

    def test_wholes_run_and_are_told(self):
        for whole in self.wholes():
            world = whole.world
            self.assertEqual(read_world(world_text(world)), world)
            house = House(world, mean(world), purse(world, mean(world)))
            names = world.asked(house.standing)
            if names:
                house += [("ask", names[0])]
                self.assertEqual(len(house), 1)
            for standing in range(world.size):
                self.assertEqual(whole.number_of(whole.tuple_of(standing)), standing)


def listed():
    """Each listed function and method: the call, right arguments, and those that may be any value."""
    w = example()
    side = Side([w, w])
    rule = Rule(w, "first")
    incomes = [HALF, HALF]
    labels, exchange, board, rooms = LabelWorld(2, 3), CallWorld((2,), (2,), 2), SeatWorld(2, ((0, 1), (0,))), \
        HelperWorld((((),), ((0,),)), 2)
    keepers = [keeper_paper(w, HALF)] * 2
    foes = [foe_paper(w, HALF, 0)] * 2
    one = ((), ((0, 0),))
    rows = [
        (Share, {"top": 1, "bottom": 2}, ["top", "bottom"]), (HALF.below, {"x": 2}, []), (HALF.__eq__, {"other": w}, []),
        (w.__eq__, {"other": HALF}, []), (rule.__eq__, {"other": w}, []),
        (World, {"turns": w.turns, "asks": w.asks, "start": 0}, ["turns", "asks", "start"]),
        (w.by_turns, {"standing": 0}, ["standing"]), (w.asked, {"standing": 0}, ["standing"]),
        (w.reach, {"standing": 0}, ["standing"]), (w.with_start, {"start": 1}, ["start"]),
        (w.names, {}, []), (w.scaled, {"factor": 2}, ["factor"]), (w.renamed, {"order": (1, 0)}, ["order"]),
        (w.answers, {"standing": 0, "name": "go"}, ["standing", "name"]),
        (w.price, {"standing": 0, "name": "go", "goal": 0}, ["standing", "name", "goal"]),
        (w.with_price, {"standing": 0, "name": "go", "goal": 0, "price": 1}, ["standing", "name", "goal", "price"]),
        (w.without_answer, {"standing": 0, "name": "go", "goal": 0}, ["standing", "name", "goal"]),
        (w.without_ask, {"standing": 1, "name": "go"}, ["standing", "name"]),
        (best_answer, {"world": w, "asks": 2, "standing": 0, "name": "go"}, ["asks", "standing", "name"]),
        (grain, {"world": w, "income": HALF}, ["income"]), (purses, {"world": w, "income": HALF}, ["income"]),
        (income_at, {"world": w, "income": HALF, "name": "go"}, ["income", "name"]),
        (Side, {"worlds": [w, w]}, ["worlds"]), (Step, {"worlds": [w, w]}, ["worlds"]),
        (Behind, {"first": w, "second": w, "links": LINKS}, ["first", "second", "links"]),
        (side.tuple_of, {"standing": 0}, ["standing"]), (side.number_of, {"standings": (0, 0)}, ["standings"]),
        (join_income, {"whole": side, "incomes": incomes}, ["incomes"]),
        (join_keeper, {"whole": side, "incomes": incomes, "papers": keepers}, ["incomes", "papers"]),
        (join_foe, {"side": side, "incomes": incomes, "papers": foes}, ["side", "incomes", "papers"]),
        (Rule, {"world": w, "choice": "first"}, ["choice"]), (rule.table, {}, []), (rule_world, {"rule": rule}, []),
        (rule, {"standing": 0, "name": "go"}, ["standing", "name"]),
        (follows, {"rule": rule, "table": TABLE}, ["table"]),
        (LabelWorld, {"things": 2, "labels": 3}, ["things", "labels"]), (labels.standings, {}, []),
        (labels.gaps, {"standing": ()}, ["standing"]), (labels.nexts, {"standing": (), "gap": 0}, ["standing", "gap"]),
        (labels.moved, {"standing": (), "gap": 0, "goal": (0,)}, ["standing", "gap", "goal"]),
        (labels.left, {"standing": (1,), "place": 0}, ["standing", "place"]), (labels.as_world, {}, []),
        (CallWorld, {"ins": (2,), "outs": (2,), "middles": 2}, ["ins", "outs", "middles"]),
        (exchange.standings, {}, []), (exchange.open_pairs, {"standing": one}, ["standing"]),
        (exchange.nexts, {"standing": one, "pair": (0, 0)}, ["standing", "pair"]),
        (exchange.moved, {"standing": ((), ()), "pair": (0, 0), "goal": one}, ["standing", "pair", "goal"]),
        (exchange.ended, {"standing": one, "pair": (0, 0), "load": ((0, 0),)}, ["standing", "pair", "load"]),
        (exchange.as_world, {}, []), (SeatWorld, {"seats": 2, "wishes": ((0, 1), (0,))}, ["seats", "wishes"]),
        (board.standings, {}, []), (board.nexts, {"holding": (0, -1), "wish": 1}, ["holding", "wish"]),
        (board.moved, {"holding": (0, -1), "wish": 1, "goal": (1, 0)}, ["holding", "wish", "goal"]),
        (board.left, {"holding": (1, 0), "seat": 0}, ["holding", "seat"]), (board.as_world, {}, []),
        (HelperWorld, {"recipes": (((),), ((0,),)), "rooms": 2}, ["recipes", "rooms"]), (rooms.standings, {}, []),
        (rooms.makeable, {}, []), (rooms.deeds, {"lot": (), "goal": (1,)}, ["lot", "goal"]),
        (rooms.nexts, {"lot": (), "value": 1}, ["lot", "value"]), (rooms.way, {"lot": (), "goal": (1,)}, ["lot", "goal"]),
        (rooms.as_world, {}, []), (House, {"world": w, "income": HALF, "purse": 0}, ["income", "purse"]),
        (world_text, {"world": w}, []), (row_text, {"row": ROW}, ["row"]), (diary_text, {"diary": DIARY}, ["diary"]),
        (read_world, {"text": world_text(w)}, ["text"]), (read_row, {"text": "go"}, ["text"]),
        (read_diary, {"text": "go:1"}, ["text"]),
    ]
    for call, more in (
            (worth, {"asks": 2}), (worths, {"asks": 2}), (best_ask, {"asks": 2}), (purse, {"income": HALF}),
            (purse_for, {"income": HALF, "asks": 2}), (mean, {}), (ladder, {"incomes": [HALF, {"go": HALF}]}),
            (keeper_fault, {"income": HALF, "purse": 0, "heights": {0: 0, 1: 3}, "table": TABLE}),
            (keeper_paper, {"income": HALF}), (foe_paper, {"income": HALF, "least": 0}),
            (foe_fault, {"income": Share(1), "least": 1, "lows": {0: 1, 1: 2}, "ranks": {0: 1, 1: 0}, "moves": MOVES}),
            (play, {"income": HALF, "table": TABLE, "moves": MOVES, "asks": 2}), (can_be, {"diary": DIARY}),
            (count_fit, {"diary": DIARY}), (ends_that_fit, {"diary": DIARY}), (paid, {"diary": DIARY}),
            (greatest_purse, {"diary": DIARY, "income": HALF, "purse": 1}), (foretold, {"diary": DIARY, "name": "go"}),
            (fitting_run, {"diary": DIARY}), (plan_fault, {"row": ROW, "plan": [0, None, 1]}),
            (least_total, {"row": ROW}), (best_plan, {"row": ROW}), (least_purse, {"row": ROW, "income": HALF}),
            (frugal_plan, {"row": ROW, "income": HALF})):
        rows.append((call, {"world": w, **more, "start": 0}, list(more) + ["start"]))
    rows.append((breaking, {"rule": rule, "income": HALF, "purse": 1, "start": 0}, ["income", "purse", "start"]))
    return rows


HOUSE_CALLS = [("turn", {"standing": 0}), ("answer", {"name": "go", "goal": 0}), ("safe", {"name": "go"}),
               ("is_safe", {}), ("ask", {"name": "go"}), ("undo", {}),
               ("trial", {"deeds": [("turn", 0), ("ask", "go")]}), ("__iadd__", {"deeds": [("turn", 0), ("ask", "go")]}),
               ("__contains__", {"thing": "go"}), ("__len__", {})]


def one_house():
    """A house that can do each of these."""
    return House(example().with_start(1), HALF, 9)


def is_plain(value):
    """True if the value and all in it are of the kinds of [3]."""
    if type(value) in (list, tuple):
        return all(map(is_plain, value))
    if type(value) is dict:
        return all(is_plain(key) and is_plain(value[key]) for key in value)
    return type(value) in (int, bool, str, type(None)) or type(value).__module__.startswith("neverowing.")


def more_values():
    """Values that are no right ones almost everywhere, and such that are spoiled in the depth."""
    deep = nested(tuple, 24)
    return odd_values() + [
        {("go", False): "go", ("go", True): "go"}, [("go", True)], [(None, False)], ["go", deep], [deep], {0: deep},
        [example(), example()], [HALF, HALF], [HALF, {}], ({0: 0}, TABLE), [({}, {})] * 2, [({}, {}, {})] * 2,
        {0: True, 1: 3}, {0: (False, "go"), 1: (1, "go")}, {(0, "go"): True}, ((0, False),), (((0, False),), ()),
        ("height", HALF), ("height", None), ("height",), "first", "cheapest", "-", "go:1", "0: a=0/1\nstart 0",
        [("ask", "go")], [("turn", deep)], [("ask", [])], [None] * 300, nested(dict, 24), {"go": nested(list, 24)}]


class AnyValueTest(unittest.TestCase):
    def tried(self, call, given):
        """The call answers with plain kinds, or raises one of the errors, and changes nothing that it was passed."""
        before = picture(given)
        try:
            told = call(**given)
        except OweError as error:
            self.assertIn(OweError, type(error).__bases__)
            self.assertIn(type(error), vars(errors).values())
        else:
            self.assertTrue(is_plain(told), (call, told))
        self.assertEqual(picture(given), before)

    def test_right_arguments(self):
        for call, right, _ in listed():
            self.assertIsNone(error_of(call, **right), call)
            if not isinstance(call, type):
                told = kept(call, **right)
                self.assertTrue(is_plain(told))
            places = inspect.signature(call).parameters.values()
            by_name = {place.name: right[place.name] for place in places if place.kind is place.KEYWORD_ONLY}
            by_position = [right[place.name] for place in places if place.kind is not place.KEYWORD_ONLY]
            self.assertEqual(len(by_name) + len(by_position), len(right))
            self.assertIsNone(error_of(call, *by_position, **by_name))

    def test_any_value_at_each_place(self):
        values = more_values()
        for call, right, places in listed():
            for place in places:
                for value in values:
                    self.tried(call, {**right, place: value})

    def test_any_values_at_several_places(self):
        dice = random.Random(8)
        values = more_values()
        for call, right, places in listed():
            for _ in range(60 if len(places) > 1 else 0):
                given = dict(right)
                for place in dice.sample(places, dice.randint(2, len(places))):
                    given[place] = dice.choice(values)
                self.tried(call, given)

    def test_any_value_in_a_house(self):
        for method, right in HOUSE_CALLS:
            for place in right:
                for value in more_values():
                    house = one_house()
                    before = [house.standing, house.purse, house.answered, house.paid, len(house)]
                    given = {**right, place: value}
                    kind = error_of(getattr(house, method), **given)
                    if kind is not None:
                        self.assertEqual([house.standing, house.purse, house.answered, house.paid, len(house)], before)
                    self.tried(getattr(one_house(), method), {**right, place: value})
            self.assertIsNone(error_of(getattr(one_house(), method), **right))

    def test_objects_stay_as_they_were(self):
        # All calls at one go over the same objects, right and wrong, leave their answers as they were.
        first = [(call, right, picture(call(**right))) for call, right, _ in listed() if not isinstance(call, type)]
        for call, right, places in listed():
            for place in places:
                error_of(call, **{**right, place: None})
        for call, right, told in first:
            if told[0] in (list, tuple, dict, int, str, bool):
                self.assertEqual(picture(call(**right)), told)


if __name__ == "__main__":
    unittest.main()
