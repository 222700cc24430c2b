"""Values that are made of other values and stand in rooms."""

from neverowing.errors import BadLot, BadRecipes, BadValue
from neverowing.kinds import is_ascending, is_index, is_integer
from neverowing.tables import numbers_of, world_from

MOST_VALUES = 5
MOST_RECIPES = 3
MOST_ROOMS = 5
VALUE_LETTERS = "abcde"


class HelperWorld:
    """The standings are the lots that can be come to, ascending tuples of the values that stand."""

    def __init__(self, recipes, rooms):
        if not are_recipes(recipes):
            raise BadRecipes("recipes")
        if not is_integer(rooms) or not 1 <= rooms <= MOST_ROOMS:
            raise BadRecipes("rooms")
        self.recipes = recipes
        self.rooms = rooms
        self._numbers = numbers_of(sorted(list(ways_from(recipes, rooms, ()))))

    def standings(self):
        """The ascending list of the standings."""
        return list(self._numbers)

    def makeable(self):
        """The ascending list of the values that stand in some standing."""
        return [value for value in range(len(self.recipes)) if any([value in lot for lot in self._numbers])]

    def deeds(self, lot, goal):
        """The least number of deeds from the lot to the next one."""
        return len(self.way(lot, goal))

    def nexts(self, lot, value):
        """The ascending list of the standings in which the value stands."""
        self._check_lot(lot)
        if not is_integer(value) or value not in self.makeable():
            raise BadValue(value)
        return self._lots_with(value)

    def way(self, lot, goal):
        """A shortest list of deeds from the lot to the next one."""
        self._check_lot(lot)
        self._check_lot(goal)
        return ways_from(self.recipes, self.rooms, lot)[goal]

    def as_world(self):
        """The world that starts with the empty lot."""
        table = {lot: ([], self._asks(lot)) for lot in self._numbers}
        return world_from(self._numbers, table, ())

    def _check_lot(self, value):
        if not isinstance(value, tuple) or not all([is_integer(one) for one in value]) or value not in self._numbers:
            raise BadLot(value)

    def _lots_with(self, value):
        return [lot for lot in self._numbers if value in lot]

    def _asks(self, lot):
        """The asks of a standing, with standings as next ones."""
        ways = ways_from(self.recipes, self.rooms, lot)
        return [("v" + VALUE_LETTERS[value], [(goal, len(ways[goal])) for goal in self._lots_with(value)])
                for value in self.makeable()]


def are_recipes(value):
    """True for a tuple of the recipes of 1 to 5 values."""
    if not isinstance(value, tuple) or not 1 <= len(value) <= MOST_VALUES:
        return False
    return all([are_recipes_of(number, row) for number, row in enumerate(value)])


def are_recipes_of(number, row):
    """True for a tuple of 1 to 3 unlike recipes of the value with this number."""
    if not isinstance(row, tuple) or not 1 <= len(row) <= MOST_RECIPES:
        return False
    return all([is_recipe(number, recipe) for recipe in row]) and len(set(row)) == len(row)


def is_recipe(number, recipe):
    """True for an ascending tuple of values less than this one."""
    if not isinstance(recipe, tuple) or not all([is_index(value, number) for value in recipe]):
        return False
    return is_ascending(recipe)


def ways_from(recipes, rooms, lot):
    """The dict of each lot that can be come to from this one and a shortest list of deeds."""
    ways = {lot: []}
    waiting = [lot]
    at = 0
    while at < len(waiting):
        before = waiting[at]
        for value, goal in steps_from(recipes, rooms, before):
            if goal not in ways:
                ways[goal] = ways[before] + [value]
                waiting.append(goal)
        at += 1
    return ways


def steps_from(recipes, rooms, lot):
    """The pairs of a deed that is possible and the lot behind it."""
    steps = []
    for value, row in enumerate(recipes):
        if any([stand_all(recipe, lot) for recipe in row]):
            if value in lot:
                steps.append((value, tuple([one for one in lot if one != value])))
            elif len(lot) < rooms:
                steps.append((value, tuple(sorted(lot + (value,)))))
    return steps


def stand_all(recipe, lot):
    """True if all values of the recipe stand."""
    return all([value in lot for value in recipe])
