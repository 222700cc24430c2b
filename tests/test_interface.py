"""The names, arguments and kinds of the interface."""

import inspect
import unittest

from neverowing import (ahead, calls, diaries, errors, helpers, house, joins, labels, papers, purses, rules, seats,
                        shares, texts, wholes, worlds, worths)
from neverowing.calls import CallWorld
from neverowing.helpers import HelperWorld
from neverowing.house import House
from neverowing.labels import LabelWorld
from neverowing.rules import Rule
from neverowing.seats import SeatWorld
from neverowing.shares import Share
from neverowing.wholes import Behind, Side, Step
from neverowing.worlds import World
from tests.helpers import example

SHARE_METHODS = {
    "__init__": "(self, top, bottom=1)",
    "__add__": None, "__radd__": None, "__sub__": None, "__rsub__": None,
    "__mul__": None, "__rmul__": None, "__neg__": None, "__eq__": None,
    "below": "(self, x)",
}
WORLD_METHODS = {
    "__init__": "(self, turns, asks, *, start=0)",
    "__eq__": "(self, other)",
    "names": "(self)",
    "by_turns": "(self, standing)",
    "asked": "(self, standing)",
    "answers": "(self, standing, name)",
    "price": "(self, standing, name, goal)",
    "reach": "(self, standing)",
    "with_start": "(self, start)",
    "with_price": "(self, standing, name, goal, price)",
    "without_answer": "(self, standing, name, goal)",
    "without_ask": "(self, standing, name)",
    "scaled": "(self, factor)",
    "renamed": "(self, order)",
}
WHOLE_METHODS = {"tuple_of": "(self, standing)", "number_of": "(self, standings)"}
METHODS = {
    Share: SHARE_METHODS,
    World: WORLD_METHODS,
    Side: {"__init__": "(self, worlds)", **WHOLE_METHODS},
    Step: {"__init__": "(self, worlds)", **WHOLE_METHODS},
    Behind: {"__init__": "(self, first, second, links)", **WHOLE_METHODS},
    Rule: {"__init__": "(self, world, choice)", "table": "(self)", "__call__": "(self, standing, name)",
           "__eq__": "(self, other)"},
    LabelWorld: {"__init__": "(self, things, labels)", "standings": "(self)", "gaps": "(self, standing)",
                 "nexts": "(self, standing, gap)", "moved": "(self, standing, gap, goal)",
                 "left": "(self, standing, place)", "as_world": "(self)"},
    CallWorld: {"__init__": "(self, ins, outs, middles)", "standings": "(self)", "open_pairs": "(self, standing)",
                "nexts": "(self, standing, pair)", "moved": "(self, standing, pair, goal)",
                "ended": "(self, standing, pair, load)", "as_world": "(self)"},
    SeatWorld: {"__init__": "(self, seats, wishes)", "standings": "(self)", "nexts": "(self, holding, wish)",
                "moved": "(self, holding, wish, goal)", "left": "(self, holding, seat)", "as_world": "(self)"},
    HelperWorld: {"__init__": "(self, recipes, rooms)", "standings": "(self)", "makeable": "(self)",
                  "deeds": "(self, lot, goal)", "nexts": "(self, lot, value)", "way": "(self, lot, goal)",
                  "as_world": "(self)"},
    House: {"__init__": "(self, world, income, purse)", "turn": "(self, standing)", "answer": "(self, name, goal)",
            "safe": "(self, name)", "is_safe": "(self)", "ask": "(self, name)", "undo": "(self)",
            "trial": "(self, deeds)", "watch": "(self, deeds)", "__iadd__": "(self, deeds)", "__len__": "(self)",
            "__contains__": "(self, thing)"},
}
FILES = {Share: shares, World: worlds, Side: wholes, Step: wholes, Behind: wholes, Rule: rules, LabelWorld: labels,
         CallWorld: calls, SeatWorld: seats, HelperWorld: helpers, House: house}
FUNCTIONS = {
    worths: {
        "worth": "(world, asks, *, start=None)",
        "worths": "(world, asks, *, start=None)",
        "best_ask": "(world, asks, *, start=None)",
        "best_answer": "(world, asks, standing, name)",
    },
    purses: {
        "grain": "(world, income)",
        "income_at": "(world, income, name)",
        "purse": "(world, income, *, start=None)",
        "purses": "(world, income)",
        "purse_for": "(world, income, asks, *, start=None)",
        "mean": "(world, *, start=None)",
        "ladder": "(world, incomes, *, start=None)",
    },
    papers: {
        "keeper_fault": "(world, income, purse, heights, table, *, start=None)",
        "keeper_paper": "(world, income, *, start=None)",
        "foe_fault": "(world, income, least, lows, ranks, moves, *, start=None)",
        "foe_paper": "(world, income, least, *, start=None)",
        "play": "(world, income, table, moves, asks, *, start=None)",
    },
    joins: {
        "join_income": "(whole, incomes)",
        "join_keeper": "(whole, incomes, papers)",
        "join_foe": "(side, incomes, papers)",
    },
    rules: {
        "rule_world": "(rule)",
        "breaking": "(rule, income, purse, *, start=None)",
        "follows": "(rule, table)",
    },
    diaries: {
        "can_be": "(world, diary, *, start=None)",
        "count_fit": "(world, diary, *, start=None)",
        "ends_that_fit": "(world, diary, *, start=None)",
        "paid": "(world, diary, *, start=None)",
        "greatest_purse": "(world, diary, income, purse, *, start=None)",
        "foretold": "(world, diary, name, *, start=None)",
        "fitting_run": "(world, diary, *, start=None)",
    },
    ahead: {
        "plan_fault": "(world, row, plan, *, start=None)",
        "least_total": "(world, row, *, start=None)",
        "best_plan": "(world, row, *, start=None)",
        "least_purse": "(world, row, income, *, start=None)",
        "frugal_plan": "(world, row, income, *, start=None)",
    },
    texts: {
        "world_text": "(world)",
        "row_text": "(row)",
        "diary_text": "(diary)",
        "read_world": "(text)",
        "read_row": "(text)",
        "read_diary": "(text)",
    },
}


class InterfaceTest(unittest.TestCase):
    def check_methods(self, kind, methods):
        for name, arguments in methods.items():
            self.assertIn(name, vars(kind), "defined in the class itself")
            if arguments is not None:
                self.assertEqual(str(inspect.signature(vars(kind)[name])), arguments, name)

    def test_methods(self):
        for kind, methods in METHODS.items():
            self.check_methods(kind, methods)

    def test_functions(self):
        for module, functions in FUNCTIONS.items():
            for name, arguments in functions.items():
                call = vars(module)[name]
                self.assertEqual(str(inspect.signature(call)), arguments, name)
                self.assertEqual(call.__module__, module.__name__, "defined in this file")

    def test_error_argument(self):
        self.assertEqual(str(inspect.signature(errors.OweError)), "(what=None)")
        self.assertEqual(str(inspect.signature(errors.BadText)), "(what=None)")

    def test_classes_are_defined_where_they_are_listed(self):
        for kind, module in FILES.items():
            self.assertEqual(kind.__module__, module.__name__)

    def test_attributes_are_there(self):
        w = example()
        links = {("go", 0): "go", ("go", 1): "go"}
        for told, names in ((Side([w, w]), ["parts", "world"]), (Step([w, w]), ["parts", "world"]),
                            (Behind(w, w, links), ["parts", "world", "links"]), (Rule(w, "first"), ["world"]),
                            (LabelWorld(2, 3), ["things", "labels"]),
                            (CallWorld((2,), (2,), 2), ["ins", "outs", "middles"]),
                            (SeatWorld(1, ((0,),)), ["seats", "wishes"]),
                            (HelperWorld((((),),), 1), ["recipes", "rooms"]),
                            (House(w, Share(2), 0), ["world", "standing", "purse", "answered", "paid"])):
            for name in names:
                self.assertTrue(hasattr(told, name))

    def test_share_attributes_are_set(self):
        self.assertEqual(sorted(vars(Share(2, 4))), ["bottom", "top"])

    def test_world_attributes_are_set(self):
        for name in ("turns", "asks", "start", "size"):
            self.assertIn(name, vars(example()))

    def test_start_of_a_world_is_passed_by_its_name_alone(self):
        with self.assertRaises(TypeError):
            World(((),), ((("a", ((0, 0),)),),), 0)

    def test_world_arguments_by_name(self):
        world = World(start=1, asks=example().asks, turns=example().turns)
        self.assertEqual(world.start, 1)
        self.assertEqual(world.by_turns(standing=1), [0, 1])
        self.assertEqual(world.asked(standing=1), ["go"])
        self.assertEqual(world.answers(name="go", standing=1), [(0, 3)])
        self.assertEqual(world.price(goal=1, name="go", standing=0), 0)
        self.assertEqual(world.reach(standing=0), [0, 1])
        self.assertEqual(world.with_start(start=0).start, 0)
        self.assertEqual(world.with_price(price=9, goal=0, name="go", standing=1).price(1, "go", 0), 9)
        self.assertEqual(world.without_answer(goal=0, name="go", standing=0).answers(0, "go"), [(1, 0)])
        self.assertEqual(world.without_ask(name="go", standing=1).asked(1), [])
        self.assertEqual(world.scaled(factor=2).price(1, "go", 0), 6)
        self.assertEqual(world.renamed(order=(1, 0)).start, 0)

    def test_function_arguments_by_name(self):
        w = example()
        half = Share(3, 2)
        table = {(0, "go"): 1, (1, "go"): 0}
        moves = {0: (0, "go"), 1: (1, "go")}
        self.assertEqual(worths.worth(asks=2, world=w, start=1), 3)
        self.assertEqual(worths.worths(start=1, asks=1, world=w), [0, 3])
        self.assertEqual(worths.best_ask(start=0, asks=1, world=w), (0, "go"))
        self.assertEqual(worths.best_answer(name="go", standing=1, asks=1, world=w), 0)
        self.assertEqual(purses.grain(income=half, world=w), 2)
        self.assertEqual(purses.income_at(name="go", income=half, world=w), 3)
        self.assertEqual(purses.purse(start=1, income=half, world=w), 3)
        self.assertEqual(purses.purses(income=half, world=w), [0, 3])
        self.assertEqual(purses.purse_for(start=1, asks=1, income=half, world=w), 3)
        self.assertEqual(purses.mean(start=1, world=w), half)
        self.assertEqual(purses.ladder(start=1, incomes=[half], world=w), [3])
        self.assertIsNone(papers.keeper_fault(start=1, table=table, heights={0: 0, 1: 3}, purse=3, income=half, world=w))
        self.assertEqual(papers.keeper_paper(start=1, income=half, world=w), ({0: 0, 1: 3}, table))
        self.assertEqual(papers.foe_fault(start=0, moves=moves, ranks={0: 0}, lows={0: 1, 1: 2}, least=1,
                                          income=Share(1), world=w), ("rank", 1))
        self.assertIsNone(papers.foe_paper(start=0, least=1, income=half, world=w))
        self.assertEqual(papers.play(start=1, asks=1, moves=moves, table=table, income=half, world=w),
                         [(1, "go", 0, -3)])

    def test_arguments_of_wholes_and_rules_by_name(self):
        w = example()
        links = {("go", 0): "go", ("go", 1): "go"}
        half = Share(3, 2)
        self.assertEqual(Step(worlds=[w, w]).world, Behind(links=links, second=w, first=w).world)
        side = Side(worlds=[w, w])
        incomes = [half, half]
        keepers = [papers.keeper_paper(w, half)] * 2
        foes = [papers.foe_paper(w, half, 0)] * 2
        self.assertEqual(joins.join_income(incomes=incomes, whole=side), {"ago": half, "bgo": half})
        self.assertEqual(joins.join_keeper(papers=keepers, incomes=incomes, whole=side)[0], {0: 0, 1: 3, 2: 3, 3: 6})
        self.assertEqual(joins.join_foe(papers=foes, incomes=incomes, side=side)[0][0], 0)
        rule = Rule(choice="first", world=w)
        self.assertEqual(rules.rule_world(rule=rule).price(0, "go", 0), 2)
        self.assertEqual(rules.breaking(start=0, purse=0, income=half, rule=rule), [(0, "go")])
        self.assertTrue(rules.follows(table={}, rule=rule))

    def test_arguments_of_diaries_and_rows_by_name(self):
        w = example()
        half = Share(3, 2)
        told = [("go", None)]
        self.assertEqual([diaries.can_be(start=1, diary=told, world=w), diaries.count_fit(start=1, diary=told, world=w),
                          diaries.ends_that_fit(start=1, diary=told, world=w),
                          diaries.paid(start=1, diary=told, world=w),
                          diaries.greatest_purse(start=1, purse=3, income=half, diary=told, world=w),
                          diaries.foretold(start=1, name="go", diary=told, world=w)],
                         [True, 3, [0, 1], (0, 3), 6, (True, True)])
        self.assertEqual(diaries.fitting_run(start=0, diary=[(None, 0)], world=w), [(0, "go", 1)])
        self.assertEqual([ahead.plan_fault(start=1, plan=[0], row=["go"], world=w),
                          ahead.least_total(start=1, row=["go"], world=w),
                          ahead.best_plan(start=1, row=["go"], world=w),
                          ahead.least_purse(start=1, income=half, row=["go"], world=w),
                          ahead.frugal_plan(start=1, income=half, row=["go"], world=w)],
                         [None, (0, 3), [0], 3, [0]])

    def test_what_stands_behind_a_star(self):
        w = example()
        for call, args in ((worths.worth, (w, 1)), (worths.worths, (w, 1)), (worths.best_ask, (w, 1)),
                           (purses.purse, (w, Share(2))), (purses.purse_for, (w, Share(2), 1)), (purses.mean, (w,)),
                           (purses.ladder, (w, [])), (papers.keeper_fault, (w, Share(2), 0, {}, {})),
                           (papers.keeper_paper, (w, Share(2))), (papers.foe_fault, (w, Share(2), 0, {}, {}, {})),
                           (papers.foe_paper, (w, Share(2), 0)), (papers.play, (w, Share(2), {}, {}, 0)),
                           (rules.breaking, (Rule(w, "first"), Share(2), 0)), (diaries.can_be, (w, [])),
                           (diaries.count_fit, (w, [])), (diaries.ends_that_fit, (w, [])), (diaries.paid, (w, [])),
                           (diaries.greatest_purse, (w, [], Share(2), 0)), (diaries.foretold, (w, [], "go")),
                           (diaries.fitting_run, (w, [])), (ahead.plan_fault, (w, [], [])),
                           (ahead.least_total, (w, [])), (ahead.best_plan, (w, [])),
                           (ahead.least_purse, (w, [], Share(2))), (ahead.frugal_plan, (w, [], Share(2)))):
            call(*args, start=0)
            with self.assertRaises(TypeError):
                call(*args, 0)

    def test_kinds_of_the_answers(self):
        world = example()
        for told in (world.names(), world.by_turns(0), world.asked(0), world.answers(0, "go"), world.reach(0)):
            self.assertIs(type(told), list)
        self.assertIs(type(world.answers(0, "go")[0]), tuple)
        self.assertIs(type(world.names()[0]), str)
        self.assertIs(type(world.reach(0)[0]), int)
        self.assertIs(type(world.price(0, "go", 0)), int)
        self.assertIs(type(world == world), bool)
        for told in (world.with_start(1), world.with_price(0, "go", 0, 1), world.without_answer(0, "go", 0),
                     world.without_ask(1, "go"), world.scaled(0), world.renamed((0, 1))):
            self.assertIs(type(told), World)


if __name__ == "__main__":
    unittest.main()
