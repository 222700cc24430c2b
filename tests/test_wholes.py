"""[26] to [28]: worlds put together."""

import itertools
import random
import unittest

from neverowing.errors import BadLink, BadWhole, NoStanding, TooMany
from neverowing.shares import Share
from neverowing.wholes import Behind, Side, Step
from neverowing.worlds import World
from tests.helpers import (error_of, example, loop_world, nested, odd_values, picture, random_links, random_world,
                           small_world)


def part_asks(part, standing):
    return {name: dict(part.answers(standing, name)) for name in part.asked(standing)}


def at(standings, k, goal):
    return tuple(goal if j == k else standing for j, standing in enumerate(standings))


def side_asks(parts, standings, links):
    return {"abcd"[k] + name: {at(standings, k, goal): price for goal, price in answers.items()}
            for k, part in enumerate(parts) for name, answers in part_asks(part, standings[k]).items()}


def step_asks(parts, standings, links):
    rows = [part_asks(part, standing) for part, standing in zip(parts, standings)]
    common = set.intersection(*(set(row) for row in rows))
    return {name: {goals: sum(row[name][goal] for row, goal in zip(rows, goals))
                   for goals in itertools.product(*(row[name] for row in rows))} for name in common}


def behind_asks(parts, standings, links):
    told = {}
    for name, answers in part_asks(parts[0], standings[0]).items():
        told[name] = {}
        for goal, price in answers.items():
            for last, more in part_asks(parts[1], standings[1])[links[(name, goal)]].items():
                told[name][(goal, last)] = price + more
    return told


def whole_of(asks_of, parts, links=None):
    """For each tuple the set of its turns and its asks, as the document says."""
    waiting = [tuple(part.start for part in parts)]
    found = {}
    while waiting:
        standings = waiting.pop()
        turns = {at(standings, k, goal) for k, part in enumerate(parts) for goal in part.turns[standings[k]]}
        asks = asks_of(parts, standings, links)
        found[standings] = (turns, asks)
        goals = turns | {goal for answers in asks.values() for goal in answers}
        waiting += [goal for goal in goals if goal not in found and goal not in waiting]
    return found


def is_silent(found):
    heard = {standings for standings, (_, asks) in found.items() if asks}
    for _ in found:
        heard |= {standings for standings, (turns, _) in found.items() if turns & heard}
    return len(heard) < len(found)


def letters(many):
    """So many names of two letters, in ascending order."""
    return ["".join(pair) for pair in itertools.product("abcdefghijklmnopqrstuvwxyz", repeat=2)][:many]


def asking(names, size=1):
    """A ring of standings with all these asks."""
    return World(((),) * size, tuple(tuple((name, (((k + 1) % size, 0),)) for name in names) for k in range(size)))


def fan(size):
    """From each standing an ask leads to any standing."""
    return World(((),) * size, ((("a", tuple((goal, goal) for goal in range(size))),),) * size)


class WholeTest(unittest.TestCase):
    def check(self, whole, parts, found):
        self.assertEqual(whole.parts, tuple(parts))
        self.assertIs(type(whole.parts), tuple)
        self.assertIs(type(whole.world), World)
        order = sorted(found)
        self.assertEqual(whole.world.size, len(order))
        for number, standings in enumerate(order):
            self.assertEqual(whole.tuple_of(number), standings)
            self.assertEqual(whole.number_of(standings), number)
            turns, asks = found[standings]
            self.assertEqual(whole.world.turns[number], tuple(sorted(order.index(goal) for goal in turns)))
            self.assertEqual(whole.world.asked(number), sorted(asks))
            for name in asks:
                answers = sorted((order.index(goal), price) for goal, price in asks[name].items())
                self.assertEqual(whole.world.answers(number, name), answers)
        self.assertEqual(whole.tuple_of(whole.world.start), tuple(part.start for part in parts))

    def check_list(self, kind, asks_of, parts):
        """Makes a Side or a Step, or tells the error that the document names."""
        told = error_of(kind, parts)
        if kind is Side and not all(set(part.names()) == {name for standing in part.reach(part.start)
                                                          for name in part.asked(standing)} for part in parts):
            self.assertEqual(told, (BadWhole, "names"))
            return "names"
        found = whole_of(asks_of, parts)
        if len(found) > 400:
            self.assertEqual(told, (TooMany, 400))
            return "many"
        if is_silent(found):
            self.assertEqual(told, (BadWhole, "silent"))
            return "silent"
        self.assertIsNone(told)
        self.check(kind(parts), parts, found)
        return "right"

    def test_example(self):
        w = example()
        side, step = Side([w, w]), Step([w, w])
        self.assertEqual([side.world.size, side.world.asked(0), side.tuple_of(2), step.world.answers(0, "go")],
                         [4, ["ago", "bgo"], (1, 0), [(0, 4), (1, 2), (2, 2), (3, 0)]])
        self.assertEqual(error_of(Behind, w, w, {("go", 0): "go"}), (BadLink, ("go", 1)))

    def test_sides(self):
        told = [self.check_list(Side, side_asks, [random_world(2 * seed), random_world(2 * seed + 1)])
                for seed in range(60)]
        self.assertEqual(set(told), {"right", "names"})

    def test_steps(self):
        told = [self.check_list(Step, step_asks, [random_world(2 * seed), random_world(2 * seed + 1)])
                for seed in range(90)]
        self.assertEqual(set(told), {"right", "silent"})

    def test_more_parts(self):
        told = set()
        for seed in range(60):
            dice = random.Random(seed)
            parts = [small_world(dice) for _ in range(3 + seed % 2)]
            told.add(self.check_list(Side, side_asks, parts))
            told.add(self.check_list(Step, step_asks, parts))
        self.assertLessEqual({"right", "silent", "names"}, told)

    def test_behinds(self):
        for seed in range(120):
            dice = random.Random(seed)
            parts = [random_world(seed), small_world(dice)]
            links = random_links(dice, *parts)
            if links is not None:
                found = whole_of(behind_asks, parts, links)
                whole = Behind(parts[0], parts[1], links)
                self.check(whole, parts, found)
                self.assertEqual(whole.links, links)

    def test_same_world_twice(self):
        w = example()
        for kind, asks_of in ((Side, side_asks), (Step, step_asks)):
            for many in (2, 3, 4):
                self.assertEqual(self.check_list(kind, asks_of, [w] * many), "right")
        links = {("go", 0): "go", ("go", 1): "go"}
        self.check(Behind(w, w, links), [w, w], whole_of(behind_asks, [w, w], links))

    def test_starts(self):
        w = example()
        whole = Side([w.with_start(1), w])
        self.assertEqual(whole.tuple_of(whole.world.start), (1, 0))
        self.assertEqual(self.check_list(Step, step_asks, [w.with_start(1), w, w.with_start(1)]), "right")
        # Just the tuples that can be come to are numbered.
        ring = loop_world(1, 2, 3, 4)
        self.assertEqual([Step([ring, ring]).world.size, Side([ring, ring]).world.size], [4, 16])
        whole = Step([ring, ring.with_start(2)])
        self.assertEqual([whole.tuple_of(k) for k in range(4)], [(0, 2), (1, 3), (2, 0), (3, 1)])
        self.assertEqual(error_of(whole.number_of, (0, 0)), (NoStanding, (0, 0)))

    def test_wholes_of_wholes(self):
        w = example()
        step = Step([w, w]).world
        side = Side([w, step])
        self.assertEqual(self.check_list(Side, side_asks, [side.world, w]), "right")
        self.assertEqual(self.check_list(Step, step_asks, [step, w]), "right")
        self.assertEqual(Side([side.world, w]).world.names(), ["aago", "abgo", "bgo"])
        links = {(name, goal): "go" for name in side.world.names() for goal in range(side.world.size)}
        self.check(Behind(side.world, step, links), [side.world, step],
                   whole_of(behind_asks, [side.world, step], links))

    def test_wrong_lists(self):
        w = example()
        for kind in (Side, Step):
            for value in odd_values():
                self.assertEqual(error_of(kind, value), (BadWhole, "worlds"))
                if not isinstance(value, World):
                    for worlds in ([w, value], [value, w], [w, w, value], [w, w, w, value], (w, w)):
                        self.assertEqual(error_of(kind, worlds), (BadWhole, "worlds"))
            for many in (0, 1, 5, 6):
                self.assertEqual(error_of(kind, [w] * many), (BadWhole, "worlds"))
            for many in (2, 3, 4):
                self.assertIsNone(error_of(kind, [w] * many))
            self.assertEqual(error_of(kind, [w, Step([w, w])]), (BadWhole, "worlds"))

    def test_long_names(self):
        short, long = asking(["a" * 11]), asking(["a" * 11, "a" * 12])
        self.assertEqual(Side([short, short]).world.names(), ["a" * 12, "b" + "a" * 11])
        self.assertEqual(error_of(Side, [short, long]), (BadWhole, "names"))
        self.assertEqual(error_of(Side, [long, short]), (BadWhole, "names"))
        # Also where the name is asked outside of the reach alone.
        far = World(((), ()), ((("a", ((0, 0),)),), (("a" * 12, ((0, 0),)),)))
        self.assertEqual(error_of(Side, [short, far]), (BadWhole, "names"))
        self.assertIsNone(error_of(Step, [asking(["a" * 12]), long]))

    def test_names_outside_of_the_reach(self):
        far = World(((), ()), ((("a", ((0, 0),)),), (("b", ((0, 0),)),)))
        near = asking(["a"])
        self.assertEqual(error_of(Side, [near, far]), (BadWhole, "names"))
        self.assertEqual(error_of(Side, [near, near, near, far]), (BadWhole, "names"))
        self.assertIsNone(error_of(Side, [near, far.with_start(1)]))
        self.assertIsNone(error_of(Step, [near, far]))
        # A standing to which the foe turns is in the reach.
        self.assertIsNone(error_of(Side, [near, World(((1,), ()), far.asks)]))

    def test_160_asks(self):
        self.assertEqual(len(Side([asking(letters(80))] * 2).world.asked(0)), 160)
        self.assertIsNone(error_of(Side, [asking(letters(100)), asking(letters(60))]))
        self.assertEqual(error_of(Side, [asking(letters(81)), asking(letters(80))]), (BadWhole, "asks"))
        self.assertEqual(error_of(Side, [asking(letters(40))] * 3 + [asking(letters(41))]), (BadWhole, "asks"))
        self.assertIsNone(error_of(Step, [asking(letters(160))] * 4))
        # Too many at one tuple alone.
        row = ((("a", ((1, 0),)),), tuple((name, ((0, 0),)) for name in letters(160)))
        self.assertEqual(error_of(Side, [World(((), ()), row), asking(["b"])]), (BadWhole, "asks"))
        # Names are looked at first.
        self.assertEqual(error_of(Side, [asking(letters(160)), asking(["a" * 12])]), (BadWhole, "names"))

    def test_silent(self):
        one, two = asking(["a"]), asking(["b"])
        self.assertEqual(error_of(Step, [one, two]), (BadWhole, "silent"))
        self.assertIsNone(error_of(Side, [one, two]))
        # The foe may turn to where both are asked the same.
        turning = World(((1,), ()), ((("b", ((0, 0),)),), (("a", ((0, 0),)),)))
        self.assertEqual(Step([one, turning]).world.size, 2)
        # Silent only behind some answer.
        late = World(((), ()), ((("a", ((0, 0), (1, 9))),), (("b", ((1, 0),)),)))
        self.assertEqual(error_of(Step, [one, late]), (BadWhole, "silent"))

    def test_400_tuples(self):
        twenty = loop_world(*[1] * 20)
        self.assertEqual(Side([twenty, twenty]).world.size, 400)
        self.assertEqual(error_of(Side, [twenty, loop_world(*[1] * 21)]), (TooMany, 400))
        self.assertEqual(Step([fan(20), fan(20)]).world.size, 400)
        self.assertEqual(error_of(Step, [fan(20), fan(21)]), (TooMany, 400))
        self.assertEqual(Step([loop_world(*[1] * 20), loop_world(*[1] * 19)]).world.size, 380)
        self.assertEqual(error_of(Step, [loop_world(*[1] * 20), loop_world(*[1] * 21)]), (TooMany, 400))
        self.assertEqual(error_of(Step, [fan(400)] * 4), (TooMany, 400))
        self.assertEqual(error_of(Side, [fan(200)] * 4), (TooMany, 400))
        self.assertEqual(Behind(fan(20), fan(20), {("a", k): "a" for k in range(20)}).world.size, 400)
        links = {("a", k): "a" for k in range(21)}
        self.assertEqual(error_of(Behind, fan(21), fan(20), links), (TooMany, 400))
        self.assertEqual(error_of(Behind, fan(20), fan(400), links), (TooMany, 400))
        # Few of many standings are come to.
        self.assertEqual(Side([fan(400), asking(["a"])]).world.size, 400)
        lone = World(((),) * 400, tuple((("a", ((k, 0),)),) for k in range(400)))
        self.assertEqual(Side([lone, lone, fan(400)]).world.size, 400)

    def test_too_many_comes_last(self):
        many = World(((),) * 20, tuple(tuple((name, (((k + 1) % 20, 0),)) for name in letters(100)) for k in range(20)))
        self.assertEqual(error_of(Side, [many, many]), (BadWhole, "asks"))
        self.assertEqual(error_of(Side, [many, many, asking(["a"], 2)]), (TooMany, 400))
        self.assertEqual(error_of(Side, [many, many, asking(["a" * 12], 2)]), (BadWhole, "names"))
        # Silent at the start, and behind turns, but too many.
        turns = tuple(((k + 1) % 21,) for k in range(21))
        one = World(turns, ((("a", ((0, 0),)),),) + ((),) * 20)
        two = World(turns, ((("b", ((0, 0),)),),) + ((),) * 20)
        self.assertEqual(error_of(Step, [one, two]), (TooMany, 400))
        self.assertEqual(error_of(Step, [one, asking(["b"])]), (BadWhole, "silent"))
        self.assertEqual(error_of(Behind, fan(400), fan(400), {("a", k): "a" for k in range(399)}),
                         (BadLink, ("a", 399)))

    def test_behind_wrong_worlds(self):
        w = example()
        for value in odd_values():
            if not isinstance(value, World):
                self.assertEqual(error_of(Behind, value, w, {}), (BadWhole, "worlds"))
                self.assertEqual(error_of(Behind, w, value, None), (BadWhole, "worlds"))
                self.assertEqual(error_of(Behind, value, value, {}), (BadWhole, "worlds"))

    def test_behind_wrong_links(self):
        w = example()
        right = {("go", 0): "go", ("go", 1): "go"}
        for value in odd_values():
            if not isinstance(value, dict):
                self.assertEqual(error_of(Behind, w, w, value), (BadLink, None))
            elif value != right:
                self.assertEqual(error_of(Behind, w, w, value), (BadLink, ("go", 0)))
            if value != "go":
                self.assertEqual(error_of(Behind, w, w, {**right, ("go", 1): value}), (BadLink, ("go", 1)))
                self.assertEqual(error_of(Behind, w, w, {("go", 0): value, ("go", 1): value}), (BadLink, ("go", 0)))
        for key in right:
            self.assertEqual(error_of(Behind, w, w, {other: "go" for other in right if other != key}), (BadLink, key))

    def test_links_of_all_standings(self):
        # All standings of the parts count, whether they are come to or not.
        first = World(((), ()), ((("b", ((0, 0),)),), (("a", ((0, 0),)), ("b", ((1, 0),)))))
        second = World(((), ()), ((("x", ((0, 0),)), ("y", ((0, 0),))), (("y", ((1, 0),)), ("z", ((1, 0),)))))
        right = {("a", 0): "y", ("b", 0): "y", ("b", 1): "y"}
        self.assertEqual(Behind(first, second, right).world.names(), ["b"])
        for key in sorted(right):
            self.assertEqual(error_of(Behind, first, second, {**right, key: "x"}), (BadLink, key))
            self.assertEqual(error_of(Behind, first, second, {**right, key: "z"}), (BadLink, key))
            self.assertEqual(error_of(Behind, first, second, {k: right[k] for k in right if k != key}), (BadLink, key))
        wrong = {key: "x" for key in right}
        self.assertEqual(error_of(Behind, first, second, wrong), (BadLink, ("a", 0)))

    def test_links_are_copied(self):
        w = example()
        links = {("go", 0): "go", ("go", 1): "go", 5: None, ("x", 1): 7, "go": True}
        before = dict(links)
        whole = Behind(w, w, links)
        self.assertEqual(links, before)
        links.clear()
        self.assertEqual(picture(whole.links), picture(before))
        told = whole.links
        told[("go", 0)] = "no"
        del told[5]
        self.assertEqual(whole.links, before)
        self.assertIsNot(whole.links, whole.links)
        self.assertEqual(Behind(w, w, before).world, whole.world)

    def test_what_stands_deep_in_the_links_is_copied(self):
        w = example()

        def given():
            return {("go", 0): "go", ("go", 1): "go", "list": [1], "dict": {1: [2], "k": {}}, "tuple": ([3], ({4: 5},)),
                    (("x",), 1): [[], ((), [{}])], "deep": nested(list), "dicts": nested(dict), "tuples": nested(tuple),
                    "share": Share(1, 2), "world": w, "flag": True}

        links = given()
        whole = Behind(w, w, links)
        for change in (lambda told: told["list"].append(2), lambda told: told["dict"][1].clear(),
                       lambda told: told["dict"]["k"].update(a=1), lambda told: told["tuple"][0].append(0),
                       lambda told: told["tuple"][1][0].clear(), lambda told: told[(("x",), 1)][1][1][0].update(b=2),
                       lambda told: told["deep"][0][0].append(7), lambda told: told["dicts"][0][0].clear()):
            change(links)
            self.assertEqual(picture(whole.links), picture(given()))
            change(whole.links)
            self.assertEqual(picture(whole.links), picture(given()))
        self.assertIs(whole.links["world"], w)
        # The innermost list or dict of a deep one, too.
        for key, kind in (("deep", list), ("dicts", dict)):
            for told in (links, whole.links):
                value = told[key]
                for _ in range(24):
                    if value and value[0]:
                        value = value[0]
                value.clear()
            self.assertEqual(picture(whole.links[key]), picture(nested(kind)))
        self.assertEqual(whole.world, Behind(w, w, given()).world)

    def test_link_under_a_key_with_a_flag_is_none(self):
        w = example()
        self.assertEqual(error_of(Behind, w, w, {("go", False): "go", ("go", 1): "go"}), (BadLink, ("go", 0)))
        self.assertEqual(error_of(Behind, w, w, {("go", 0): "go", ("go", True): "go"}), (BadLink, ("go", 1)))
        links = {("go", 0): "go", ("go", 1): "go", ("stay", True): [0]}
        self.assertEqual(picture(Behind(w, w, links).links), picture(links))

    def test_lists_are_copied(self):
        w = example()
        for kind in (Side, Step):
            worlds = [w, w]
            whole = kind(worlds)
            self.assertEqual(worlds, [w, w])
            worlds.append(None)
            worlds[0] = None
            self.assertEqual(whole.parts, (w, w))

    def test_wrong_standings(self):
        w = example()
        links = {("go", 0): "go", ("go", 1): "go"}
        for whole in (Side([w, w]), Step([w, w]), Behind(w, w, links)):
            for value in odd_values() + [4, -1, (0, 2), (-1, 0), (0, 0, 0), [0, 0], (True, 0), (0, False), (0, "go"),
                                         ((0, 0),), ((0,), 0), ([0], 0), (Share(0), 0), (None, 0), (w, w)]:
                if not (type(value) is int and value in range(4)):
                    error, what = error_of(whole.tuple_of, value)
                    self.assertIs(error, NoStanding)
                    self.assertIs(what, value)
                if picture(value) not in [picture((k, m)) for k in (0, 1) for m in (0, 1)]:
                    error, what = error_of(whole.number_of, value)
                    self.assertIs(error, NoStanding)
                    self.assertIs(what, value)
            self.assertEqual([whole.number_of(whole.tuple_of(k)) for k in range(4)], [0, 1, 2, 3])
            self.assertEqual(whole.tuple_of(standing=3), (1, 1))
            self.assertEqual(whole.number_of(standings=(1, 0)), 2)


if __name__ == "__main__":
    unittest.main()
