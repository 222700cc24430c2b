"""[48]: a house that runs a world live."""

import inspect
import random
import unittest

from neverowing.errors import (BadCount, BadDeed, BadIncome, NoAnswer, NoAsk, NoSafe, NoStanding, NoTurn, OweError,
                               Owing)
from neverowing.house import House
from neverowing.papers import keeper_paper
from neverowing.purses import mean, purses
from neverowing.shares import Share
from neverowing.worlds import World
from tests.helpers import (check_errors, error_of, example, is_plain_integer, is_right_income, loop_world, nested,
                           odd_values, picture, random_income, random_world)
from tests.reference import grains, least_purses

HALF = Share(3, 2)


def looks(house):
    """All that can be seen of a house."""
    return [house.standing, house.purse, house.answered, house.paid, len(house), house.is_safe()]


class Model:
    """A house that reckons anew from the begin each time."""

    def __init__(self, world, income, purse):
        self.world, self.begin = world, purse
        self.grain, self.gains = grains(world, income)
        self.least = least_purses(world, income)
        self.done = []

    def now(self):
        """The standing, the purse, how many asks were answered, and what was paid."""
        at, purse, answered, paid = self.world.start, self.begin, 0, 0
        for name, goal in self.done:
            if name is not None:
                price = dict(self.prices(at, name))[goal]
                purse += self.gains[name] - self.grain * price
                answered += 1
                paid += price
            at = goal
        return at, purse, answered, paid

    def prices(self, at, name):
        return dict(self.world.asks[at])[name]

    def looks(self):
        at, purse = self.now()[:2]
        safe = self.least[at] is not None and purse >= self.least[at]
        return list(self.now()) + [len(self.done), safe]

    def left(self, name, price):
        return self.now()[1] + self.gains[name] - self.grain * price

    def safe(self, name):
        return sorted(goal for goal, price in self.prices(self.now()[0], name)
                      if self.least[goal] is not None and self.left(name, price) >= self.least[goal])

    def names(self):
        return [name for name, _ in self.world.asks[self.now()[0]]]

    def turn(self, standing):
        if not (is_plain_integer(standing) and 0 <= standing < self.world.size):
            raise NoStanding(standing)
        if standing not in self.world.turns[self.now()[0]]:
            raise NoTurn(standing)
        self.done.append((None, standing))

    def answer(self, name, goal):
        if name not in self.names():
            raise NoAsk(name)
        prices = dict(self.prices(self.now()[0], name))
        if not is_plain_integer(goal) or goal not in prices:
            raise NoAnswer(goal)
        if self.left(name, prices[goal]) < 0:
            raise Owing(-self.left(name, prices[goal]))
        self.done.append((name, goal))
        return prices[goal]

    def ask(self, name):
        if name not in self.names():
            raise NoAsk(name)
        prices = dict(self.prices(self.now()[0], name))
        safe = self.safe(name)
        if not safe:
            raise NoSafe(name)
        least = min(prices[goal] for goal in safe)
        goal = min(goal for goal in safe if prices[goal] == least)
        self.done.append((name, goal))
        return goal, least

    def do(self, deed):
        return self.turn(deed[1]) if deed[0] == "turn" else self.ask(deed[1])

    def undo(self):
        if not self.done:
            return False
        self.done.pop()
        return True

    def trial(self, deeds):
        """The pairs of what each deed tells and the purse of then, and the error that ends them."""
        before = list(self.done)
        told = []
        try:
            for deed in deeds:
                told.append((self.do(deed), self.now()[1]))
        except OweError as error:
            self.done = before
            return told, (type(error), error.what)
        self.done = before
        return told, None


def random_deed(dice, model, odd=0.2):
    """A deed that is mostly possible at the standing of now."""
    if dice.random() < odd:
        return (dice.choice(["turn", "ask"]), dice.choice(["a", "b", "go", "stay", 0, 1, 2, 9, None, True]))
    turns = model.world.turns[model.now()[0]]
    if turns and (dice.random() < 0.4 or not model.names()):
        return ("turn", dice.choice(turns))
    return ("ask", dice.choice(model.names()))


def random_deeds(dice, model, most):
    """A list of deeds; those behind the first are picked at the standing that they come to."""
    before = list(model.done)
    deeds = []
    for _ in range(dice.randint(0, most)):
        deeds.append(random_deed(dice, model))
        try:
            model.do(deeds[-1])
        except OweError:
            break
    model.done = before
    return deeds


def outcome(call):
    """The pair of what a call tells and of the error that it raises."""
    try:
        return call(), None
    except OweError as error:
        return None, (type(error), error.what)


def is_deeds(value):
    """None for a list of deeds, otherwise what BadDeed tells."""
    if type(value) is not list or len(value) > 200:
        return -1
    return next((index for index, deed in enumerate(value) if not (
        type(deed) is tuple and len(deed) == 2 and type(deed[0]) is str and deed[0] in ("turn", "ask"))), None)


class HouseTest(unittest.TestCase):
    def test_example(self):
        house = House(example(), HALF, 0)
        first = house.ask("go")
        self.assertEqual([first, house.purse, house.safe("go"), house.ask("go"), house.purse, house.paid, len(house),
                          "go" in house], [(1, 0), 3, [0], (0, 3), 0, 3, 2, True])

    def test_begin(self):
        for seed in range(20):
            world = random_world(seed)
            house = House(world, Share(2), 7)
            self.assertIs(house.world, world)
            self.assertEqual(looks(house)[:5], [world.start, 7, 0, 0, 0])
            self.assertIs(house.undo(), False)
        self.assertEqual(House(example().with_start(1), Share(2), 0).standing, 1)

    def test_deeds_against_the_model(self):
        met = set()
        for seed in range(250):
            dice = random.Random(seed)
            world = random_world(seed)
            income = random_income(dice, world) if seed % 2 else mean(world)
            least = purses(world, income)[world.start]
            purse = dice.choice([0, 3, 20]) if least is None else max(0, least + dice.choice([-1, 0, 0, 0, 2]))
            house, model = House(world, income, purse), Model(world, income, purse)
            for _ in range(25):
                self.one_deed(dice, house, model, met)
                self.assertEqual(looks(house), model.looks())
                for name in model.names():
                    self.assertEqual(house.safe(name), model.safe(name))
                for name in ("a", "b", "go", "stay"):
                    self.assertIs(name in house, name in model.names())
        self.assertEqual({error for error in met if error}, {NoAsk, NoAnswer, NoTurn, NoStanding, Owing, NoSafe})

    def one_deed(self, dice, house, model, met):
        kind = dice.choice(["deed", "deed", "deed", "answer", "undo", "trial", "+=", "watch"])
        if kind == "undo":
            self.assertIs(house.undo(), model.undo())
        elif kind == "answer":
            name = dice.choice(model.names() + ["a", "zz"])
            goal = dice.choice([0, 1, 2, 3, None, False])
            self.tell(lambda: house.answer(name, goal), lambda: model.answer(name, goal), met)
        elif kind == "deed":
            word, thing = random_deed(dice, model)
            call = house.turn if word == "turn" else house.ask
            self.tell(lambda: call(thing), lambda: model.do((word, thing)), met)
        else:
            self.many_deeds(kind, house, model, random_deeds(dice, model, 6), met)

    def many_deeds(self, kind, house, model, deeds, met):
        before = looks(house)
        given = list(deeds)
        told, error = model.trial(deeds)
        met.add(error and error[0])
        if kind == "trial":
            self.assertEqual(error_of(house.trial, deeds), error)
            self.assertEqual(looks(house), before)
            if error is None:
                self.assertEqual(house.trial(deeds), [one for one, _ in told])
        elif kind == "+=":
            same = house
            self.assertEqual(error_of(house.__iadd__, deeds), error)
            self.assertIs(house, same)
            for deed in deeds if error is None else []:
                model.do(deed)
        else:
            seen = []
            self.assertEqual(error_of(lambda: [seen.append(one) for one in house.watch(deeds)]), error)
            self.assertEqual(seen, told)
            for deed in deeds[:len(told)]:
                model.do(deed)
        self.assertEqual(picture(deeds), picture(given))

    def tell(self, call, other, met):
        """Both calls tell the same, or raise the same error."""
        told, wanted = outcome(call), outcome(other)
        self.assertEqual(told, wanted)
        met.add(wanted[1] and wanted[1][0])

    def test_turns(self):
        house = House(example(), HALF, 0)
        self.assertEqual(error_of(house.turn, 1), (NoTurn, 1))
        self.assertEqual(error_of(house.turn, 0), (NoTurn, 0))
        house.ask("go")
        self.assertEqual(error_of(house.turn, 1), (NoTurn, 1))
        self.assertEqual(looks(house), [1, 3, 1, 0, 1, True])
        self.assertIsNone(house.turn(0))
        self.assertEqual(looks(house), [0, 3, 1, 0, 2, True])
        # Only the turns of the standing itself, not what it comes to by several.
        w = World(((1,), (2,), ()), ((), (), (("a", ((0, 0),)),)))
        house = House(w, Share(0), 0)
        self.assertEqual(error_of(house.turn, 2), (NoTurn, 2))
        self.assertEqual([("a" in house), error_of(house.ask, "a")], [False, (NoAsk, "a")])
        house.turn(1)
        house.turn(2)
        self.assertEqual([("a" in house), house.answer("a", 0), len(house)], [True, 0, 3])

    def test_owing(self):
        house = House(example(), HALF, 0)
        self.assertEqual(error_of(house.answer, "go", 0), (Owing, 1))
        self.assertEqual(looks(house), [0, 0, 0, 0, 0, True])
        self.assertEqual(House(example(), HALF, 1).answer("go", 0), 2)
        self.assertEqual(error_of(House(example().scaled(10), {"go": Share(1, 3)}, 2).answer, "go", 0), (Owing, 57))
        house = House(example().with_start(1), Share(0), 3)
        self.assertEqual([house.answer("go", 0), house.purse], [3, 0])
        house = House(example().with_start(1), Share(0), 2)
        self.assertEqual(error_of(house.answer, "go", 0), (Owing, 1))

    def test_safe_answers(self):
        # Two answers are safe; the cheapest is taken, of these the one with the least next standing.
        w = World(((),) * 4, ((("a", ((0, 9), (1, 4), (2, 4), (3, 0))),),) + tuple((("a", ((k, k % 3),)),)
                                                                                   for k in (1, 2, 3)))
        house = House(w, Share(2), 2)
        self.assertEqual([house.safe("a"), house.ask("a")], [[1, 2, 3], (3, 0)])
        w = w.without_answer(0, "a", 3)
        self.assertEqual(purses(w, Share(2)), [2, 0, 0, 0])
        house = House(w, Share(2), 2)
        self.assertEqual([house.safe("a"), house.ask("a"), house.purse], [[1, 2], (1, 4), 0])
        # Behind 2 no purse is enough, so the cheap answer is not safe.
        w = World(((),) * 3, ((("a", ((1, 3), (2, 0))),), (("a", ((1, 0),)),), (("a", ((2, 9),)),)))
        house = House(w, Share(1), 50)
        self.assertEqual([house.safe("a"), house.ask("a"), house.purse], [[1], (1, 3), 48])
        self.assertIs(house.is_safe(), True)

    def test_no_safe_answer(self):
        w = loop_world(0, 4)
        house = House(w, Share(1), 100)
        self.assertEqual([house.is_safe(), house.safe("a"), error_of(house.ask, "a")], [False, [], (NoSafe, "a")])
        self.assertEqual([house.answer("a", 1), house.purse], [0, 101])
        house = House(w, Share(2), 0)
        self.assertEqual([house.is_safe(), house.safe("a")], [True, [1]])
        house = House(w.with_start(1), Share(2), 1)
        self.assertEqual([house.is_safe(), house.safe("a"), error_of(house.ask, "a")], [False, [], (NoSafe, "a")])
        self.assertEqual(House(w.with_start(1), Share(2), 2).ask("a"), (0, 4))
        # The ask is looked for first.
        self.assertEqual(error_of(house.ask, "b"), (NoAsk, "b"))

    def test_facts(self):
        for seed in range(200):
            dice = random.Random(seed)
            world = random_world(seed)
            income = mean(world) if seed % 2 else random_income(dice, world)
            least = purses(world, income)[world.start]
            if least is None:
                self.assertIs(House(world, income, 10 ** 6).is_safe(), False)
                continue
            if least > 0:
                self.assertIs(House(world, income, least - 1).is_safe(), False)
            house = House(world, income, least)
            for _ in range(40):
                self.assertIs(house.is_safe(), True)
                self.assertGreaterEqual(house.purse, 0)
                turns = world.turns[house.standing]
                names = world.asked(house.standing)
                if turns and (not names or dice.random() < 0.4):
                    house.turn(dice.choice(turns))
                else:
                    house.ask(dice.choice(names))

    def test_house_that_follows_a_paper(self):
        for seed in range(100):
            dice = random.Random(seed)
            world = random_world(seed)
            heights, table = keeper_paper(world, mean(world))
            house = House(world, mean(world), heights[world.start])
            for _ in range(40):
                turns, names = world.turns[house.standing], world.asked(house.standing)
                if turns and (not names or dice.random() < 0.4):
                    house.turn(dice.choice(turns))
                else:
                    name = dice.choice(names)
                    house.answer(name, table[(house.standing, name)])
                self.assertGreaterEqual(house.purse, heights[house.standing])

    def test_undo(self):
        for seed in range(60):
            dice = random.Random(seed)
            world = random_world(seed)
            house, model = House(world, mean(world), 30), Model(world, mean(world), 30)
            seen = [looks(house)]
            while len(seen) < 20:
                deeds = [random_deed(dice, model, 0)]
                if error_of(model.do, deeds[0]):
                    break
                if dice.random() < 0.5:
                    house += deeds
                else:
                    self.assertEqual(len(list(house.watch(deeds))), 1)
                seen.append(looks(house))
            for before in seen[-2::-1]:
                self.assertIs(house.undo(), True)
                self.assertEqual(looks(house), before)
            self.assertIs(house.undo(), False)
            self.assertEqual(looks(house), seen[0])

    def test_trial_with_an_error_at_each_place(self):
        house = House(example(), HALF, 0)
        right = [("ask", "go"), ("turn", 0), ("ask", "go"), ("ask", "go"), ("ask", "go")]
        told = [(1, 0), None, (1, 0), (0, 3), (1, 0)]
        self.assertEqual(house.trial(right), told)
        for place in range(len(right)):
            for deed, error in ((("ask", "no"), NoAsk), (("turn", 7), NoStanding), (("ask", ()), NoAsk)):
                deeds = right[:place] + [deed] + right[place:]
                self.assertEqual(error_of(house.trial, deeds), (error, deed[1]))
                self.assertEqual(looks(house), [0, 0, 0, 0, 0, True])
                self.assertEqual(error_of(house.__iadd__, deeds), (error, deed[1]))
                self.assertEqual(looks(house), [0, 0, 0, 0, 0, True])
                other = House(example(), HALF, 0)
                seen = []
                self.assertEqual(error_of(lambda: [seen.append(one) for one in other.watch(deeds)]), (error, deed[1]))
                self.assertEqual([one for one, _ in seen], told[:place])
                self.assertEqual(len(other), place)
                self.assertEqual(other.trial(right[place:]), told[place:])
        self.assertEqual(error_of(House(example(), Share(1), 9).trial, right), (NoSafe, "go"))

    def test_several_at_once(self):
        house = House(example(), HALF, 0)
        same = house
        house += [("ask", "go"), ("ask", "go")]
        self.assertIs(house, same)
        self.assertEqual(looks(house), [0, 0, 2, 3, 2, True])
        house += []
        self.assertEqual(looks(house), [0, 0, 2, 3, 2, True])
        self.assertEqual(house.trial([]), [])
        self.assertEqual([house.undo(), looks(house)], [True, [1, 3, 1, 0, 1, True]])

    def test_watch(self):
        house = House(example(), HALF, 0)
        deeds = [("ask", "go"), ("turn", 0), ("ask", "go"), ("ask", "go")]
        self.assertTrue(inspect.isgeneratorfunction(House.watch))
        steps = house.watch(deeds)
        # Nothing is done before the iteration begins.
        self.assertEqual(looks(house), [0, 0, 0, 0, 0, True])
        self.assertEqual(next(steps), ((1, 0), 3))
        self.assertEqual(looks(house), [1, 3, 1, 0, 1, True])
        self.assertEqual(next(steps), (None, 3))
        self.assertEqual(looks(house), [0, 3, 1, 0, 2, True])
        self.assertEqual(list(steps), [((1, 0), 6), ((0, 3), 3)])
        self.assertEqual(looks(house), [0, 3, 3, 3, 4, True])
        self.assertEqual(list(house.watch([])), [])

    def test_watch_left_early(self):
        house = House(example(), HALF, 0)
        for told, purse in house.watch([("ask", "go"), ("ask", "go"), ("ask", "go")]):
            self.assertEqual((told, purse), ((1, 0), 3))
            break
        self.assertEqual(looks(house), [1, 3, 1, 0, 1, True])
        steps = house.watch([("ask", "go"), ("turn", 7)])
        next(steps)
        steps.close()
        self.assertEqual(list(steps), [])
        self.assertEqual(looks(house), [0, 0, 2, 3, 2, True])
        self.assertEqual([house.undo(), house.undo(), house.undo()], [True, True, False])

    def test_watch_raises_when_it_begins(self):
        house = House(example(), HALF, 0)
        for value in [None, ("ask", "go"), [("ask", "go"), 5], [("ask", "go")] * 201]:
            steps = house.watch(value)
            self.assertEqual(error_of(next, steps), (BadDeed, is_deeds(value)))
            self.assertEqual(len(house), 0)

    def test_200_and_201_deeds(self):
        w = loop_world(0, 0)
        for many in (0, 1, 200):
            deeds = [("ask", "a")] * many
            house = House(w, Share(0), 0)
            self.assertEqual(len(house.trial(deeds)), many)
            self.assertEqual(len(list(house.watch(deeds))), many)
            house += deeds
            self.assertEqual(len(house), 2 * many)
        for deeds in ([("ask", "a")] * 201, [None] * 201, [("ask", "a")] * 1000):
            house = House(w, Share(0), 0)
            for call in (house.trial, house.__iadd__, lambda value: next(house.watch(value))):
                self.assertEqual(error_of(call, deeds), (BadDeed, -1))
            self.assertEqual(len(house), 0)

    def test_wrong_deeds(self):
        near = [("turn",), ("ask", "go", 0), ["ask", "go"], ("Ask", "go"), ("", "go"), (None, "go"), ("turn ", 0),
                (True, 0), (("ask",), 0), ({}, 0), ("answer", "go"), "ask", ("asks", "go"), {"ask": "go"}]
        house = House(example(), HALF, 0)
        trials = odd_values() + [[value] for value in odd_values() + near]
        trials += [[("ask", "go"), ("turn", 0), value, 5] for value in odd_values() + near]
        for deeds in trials:
            wanted = is_deeds(deeds)
            for call in (house.trial, house.__iadd__, lambda value: list(house.watch(value))):
                told = error_of(call, deeds)
                if wanted is None:
                    self.assertNotEqual(told and told[0], BadDeed)
                else:
                    self.assertEqual(told, (BadDeed, wanted))
                    self.assertIs(type(told[1]), int)
                    self.assertEqual(len(house), 0)

    def test_things_are_judged_when_their_turn_comes(self):
        for value in odd_values():
            house = House(example(), HALF, 0)
            for word, right, error in (("turn", [], NoTurn), ("ask", ["go"], NoAsk)):
                deeds = [("ask", "go"), ("ask", "go"), (word, value)]
                if type(value) is str and value in right:
                    self.assertIsNone(error_of(house.trial, deeds))
                    continue
                if word == "turn" and not (is_plain_integer(value) and value in (0, 1)):
                    error = NoStanding
                told = error_of(house.trial, deeds)
                self.assertIs(told[0], error)
                self.assertIs(told[1], value)

    def test_wrong_things(self):
        house = House(example(), HALF, 0)
        for value in odd_values() + [2, ("turn", 0), nested(tuple)]:
            self.assertIs(value in house, type(value) is str and value == "go")
            if not (is_plain_integer(value) and value in (0, 1)):
                told = error_of(house.turn, value)
                self.assertIs(told[0], NoStanding)
                self.assertIs(told[1], value)
                told = error_of(house.answer, "go", value)
                self.assertIs(told[0], NoAnswer)
                self.assertIs(told[1], value)
            if value != "go":
                for call, args in ((house.answer, (None,)), (house.answer, (1,)), (house.safe, ()), (house.ask, ())):
                    told = error_of(call, value, *args)
                    self.assertIs(told[0], NoAsk)
                    self.assertIs(told[1], value)
        self.assertEqual(looks(house), [0, 0, 0, 0, 0, True])

    def test_wrong_begins(self):
        w = example()
        check_errors(self, House, {"world": w, "income": Share(2), "purse": 0}, [
            ("income", is_right_income(w), BadIncome),
            ("purse", lambda value: is_plain_integer(value) and value >= 0, BadCount)])

    def test_income_is_copied(self):
        income = {"go": HALF, "more": [1]}
        house = House(example(), income, 0)
        self.assertEqual(picture(income), picture({"go": HALF, "more": [1]}))
        income["go"] = Share(0)
        income.clear()
        self.assertEqual([house.ask("go"), house.purse, house.is_safe()], [(1, 0), 3, True])

    def test_what_is_told_may_be_changed(self):
        house = House(example(), HALF, 0)
        house.safe("go").append(5)
        house.trial([("ask", "go")]).clear()
        self.assertEqual([house.safe("go"), house.trial([("ask", "go")])], [[1], [(1, 0)]])
        deeds = [("ask", "go"), ("ask", "go")]
        house += deeds
        deeds.clear()
        self.assertEqual(len(house), 2)

    def test_two_houses(self):
        w = example()
        one, two = House(w, HALF, 0), House(w, HALF, 0)
        one.ask("go")
        self.assertEqual(looks(two), [0, 0, 0, 0, 0, True])
        two += [("ask", "go"), ("ask", "go"), ("ask", "go")]
        self.assertEqual([looks(one), len(two)], [[1, 3, 1, 0, 1, True], 3])
        one.undo()
        self.assertEqual(two.answered, 3)
        # Two iterations at a time, each over its own house.
        pairs = list(zip(one.watch([("ask", "go")] * 2), two.watch([("ask", "go")] * 2)))
        self.assertEqual(pairs, [(((1, 0), 3), ((0, 3), 0)), (((0, 3), 0), ((1, 0), 3))])

    def test_great_numbers(self):
        w = example().scaled(10 ** 40)
        house = House(w, Share(3 * 10 ** 40, 2), 10 ** 50)
        house += [("ask", "go")] * 3
        self.assertEqual([house.paid, house.answered], [3 * 10 ** 40, 3])
        self.assertEqual(house.purse, 10 ** 50 + 15 * 10 ** 39)

    def test_arguments_by_name(self):
        house = House(purse=3, income=HALF, world=example())
        self.assertEqual(house.trial(deeds=[("ask", "go")]), [(1, 0)])
        self.assertEqual(house.safe(name="go"), [0, 1])
        self.assertEqual(house.answer(goal=1, name="go"), 0)
        self.assertIsNone(house.turn(standing=0))
        self.assertEqual(house.ask(name="go"), (1, 0))
        self.assertEqual(list(house.watch(deeds=[("ask", "go")])), [((0, 3), 6)])

    def test_kinds(self):
        house = House(example(), HALF, 1)
        self.assertEqual([type(told) for told in (house.standing, house.purse, house.answered, house.paid)], [int] * 4)
        self.assertEqual([type(told) for told in (house.safe("go"), house.is_safe(), house.trial([]), "go" in house,
                                                  house.answer("go", 0), house.undo(), house.undo())],
                         [list, bool, list, bool, int, bool, bool])
        self.assertEqual([type(told) for told in (house.ask("go"), len(house))], [tuple, int])


if __name__ == "__main__":
    unittest.main()
