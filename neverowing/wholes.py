"""Worlds put together into a whole: side by side, in step, or one behind another."""

from neverowing.errors import BadLink, BadWhole, NoStanding, TooMany
from neverowing.kinds import LONGEST_NAME, copied, is_index, is_integer
from neverowing.tables import rows_of
from neverowing.worlds import MOST_ASKS, MOST_STANDINGS, World, is_silent

PART_LETTERS = "abcd"
MOST_PARTS = 4


class Side:
    """Worlds side by side: each ask is an ask of one part, the others stay."""

    def __init__(self, worlds):
        check_worlds(worlds)
        if not all([can_be_lettered(world) for world in worlds]):
            raise BadWhole("names")
        self.parts = tuple(worlds)
        table = gathered(self)
        if max([len(asks) for _, asks in table.values()]) > MOST_ASKS:
            raise BadWhole("asks")
        self._numbers = numbered(table)
        turns, asks = rows_of(self._numbers, table)
        self.world = World(turns, asks, start=self._numbers[starts_of(self.parts)])

    def tuple_of(self, standing):
        """The tuple of the standings of the parts at this standing of the whole."""
        return tuple_at(self._numbers, standing)

    def number_of(self, standings):
        """The standing of the whole for a tuple of standings of the parts."""
        return number_at(self._numbers, standings)

    def asks_at(self, standings):
        """The asks of a tuple, with tuples as next standings."""
        asks = []
        for k, part in enumerate(self.parts):
            for name, answers in part.asks[standings[k]]:
                told = [(moved_part(standings, k, goal), price) for goal, price in answers]
                asks.append((PART_LETTERS[k] + name, told))
        return asks

    def joined_goals(self, tables, standings, name):
        """The tuple of next standings that tables of the parts give for an ask of a tuple."""
        k = PART_LETTERS.index(name[0])
        return moved_part(standings, k, tables[k][(standings[k], name[1:])])


class Step:
    """Worlds in step: each ask is asked of all parts at once."""

    def __init__(self, worlds):
        check_worlds(worlds)
        self.parts = tuple(worlds)
        table = gathered(self)
        self._numbers = numbered(table)
        turns, asks = rows_of(self._numbers, table)
        if is_silent(turns, asks):
            raise BadWhole("silent")
        self.world = World(turns, asks, start=self._numbers[starts_of(self.parts)])

    def tuple_of(self, standing):
        """The tuple of the standings of the parts at this standing of the whole."""
        return tuple_at(self._numbers, standing)

    def number_of(self, standings):
        """The standing of the whole for a tuple of standings of the parts."""
        return number_at(self._numbers, standings)

    def asks_at(self, standings):
        """The asks of a tuple, with tuples as next standings."""
        rows = [dict(part.asks[standing]) for part, standing in zip(self.parts, standings)]
        asks = []
        for name in self.parts[0].asked(standings[0]):
            if all([name in row for row in rows]):
                asks.append((name, joined_answers([row[name] for row in rows])))
        return asks

    def joined_goals(self, tables, standings, name):
        """The tuple of next standings that tables of the parts give for an ask of a tuple."""
        return tuple([table[(standing, name)] for table, standing in zip(tables, standings)])


class Behind:
    """One world behind another: the answer of the first part names the ask of the second one."""

    def __init__(self, first, second, links):
        if not isinstance(first, World) or not isinstance(second, World):
            raise BadWhole("worlds")
        if not isinstance(links, dict):
            raise BadLink(None)
        self.parts = (first, second)
        self._names = linked_names(first, second, links)
        self._links = copied(links)
        table = gathered(self)
        self._numbers = numbered(table)
        turns, asks = rows_of(self._numbers, table)
        self.world = World(turns, asks, start=self._numbers[starts_of(self.parts)])

    @property
    def links(self):
        """A new dict of the links, with new lists and dicts within it."""
        return copied(self._links)

    def tuple_of(self, standing):
        """The tuple of the standings of the parts at this standing of the whole."""
        return tuple_at(self._numbers, standing)

    def number_of(self, standings):
        """The standing of the whole for a tuple of standings of the parts."""
        return number_at(self._numbers, standings)

    def asks_at(self, standings):
        """The asks of a tuple, with tuples as next standings."""
        first, second = self.parts
        behind = dict(second.asks[standings[1]])
        asks = []
        for name, answers in first.asks[standings[0]]:
            told = []
            for goal, price in answers:
                told.extend(joined_answers([((goal, price),), behind[self._names[(name, goal)]]]))
            asks.append((name, told))
        return asks

    def joined_goals(self, tables, standings, name):
        """The tuple of next standings that tables of the parts give for an ask of a tuple."""
        goal = tables[0][(standings[0], name)]
        return goal, tables[1][(standings[1], self._names[(name, goal)])]


def check_worlds(worlds):
    """Raises BadWhole unless the value is a list of 2 to 4 worlds."""
    if not isinstance(worlds, list) or not 2 <= len(worlds) <= MOST_PARTS:
        raise BadWhole("worlds")
    if not all([isinstance(world, World) for world in worlds]):
        raise BadWhole("worlds")


def can_be_lettered(world):
    """True if a letter fits ahead of each name, and each name is asked in the reach of the start."""
    asked = [name for standing in world.reach(world.start) for name in world.asked(standing)]
    return all([len(name) < LONGEST_NAME and name in asked for name in world.names()])


def common_names(world):
    """The names of the asks that each standing has."""
    return [name for name in world.names() if all([name in world.asked(k) for k in range(world.size)])]


def link_keys(world):
    """The ascending list of the pairs of a name and a next standing of an ask of this name."""
    return sorted({(name, goal) for row in world.asks for name, answers in row for goal, _ in answers})


def linked_names(first, second, links):
    """The name of the second world for each link key of the first one; raises BadLink for a wrong one."""
    told = {key: links[key] for key in links if is_link_key(key)}
    common = common_names(second)
    for key in link_keys(first):
        if told.get(key) not in common:
            raise BadLink(key)
    return {key: told[key] for key in link_keys(first)}


def is_link_key(key):
    """True for a pair of a string and an integer; a key with a flag is equal to such a one, but is none."""
    return isinstance(key, tuple) and len(key) == 2 and isinstance(key[0], str) and is_integer(key[1])


def starts_of(parts):
    """The tuple of the starts of the parts."""
    return tuple([part.start for part in parts])


def moved_part(standings, k, goal):
    """The tuple in which the part k is at this standing."""
    return standings[:k] + (goal,) + standings[k + 1:]


def turns_at(parts, standings):
    """The tuples to which a turn of one part leads."""
    return [moved_part(standings, k, goal) for k, part in enumerate(parts) for goal in part.turns[standings[k]]]


def joined_answers(choices):
    """The answers of all parts at once, with their prices together."""
    joined = [((), 0)]
    for answers in choices:
        joined = [(goals + (goal,), total + price) for goals, total in joined for goal, price in answers]
        # As many tuples can be come to, whatever the parts behind answer.
        if len(joined) > MOST_STANDINGS:
            raise TooMany(MOST_STANDINGS)
    return joined


def gathered(whole):
    """The dict of the turns and the asks of each tuple that can be come to."""
    begin = starts_of(whole.parts)
    found = {begin: True}
    waiting = [begin]
    table = {}
    while len(waiting) > 0:
        standings = waiting.pop()
        turns = turns_at(whole.parts, standings)
        asks = whole.asks_at(standings)
        table[standings] = (turns, asks)
        for goal in turns + [goal for _, answers in asks for goal, _ in answers]:
            if goal not in found:
                found[goal] = True
                waiting.append(goal)
        if len(found) > MOST_STANDINGS:
            raise TooMany(MOST_STANDINGS)
    return table


def numbered(table):
    """The dict of the number of each tuple, in ascending order."""
    return {standings: k for k, standings in enumerate(sorted(list(table)))}


def tuple_at(numbers, standing):
    """The tuple with this number."""
    if not is_index(standing, len(numbers)):
        raise NoStanding(standing)
    return list(numbers)[standing]


def number_at(numbers, standings):
    """The number of this tuple."""
    if not isinstance(standings, tuple) or not all([is_integer(standing) for standing in standings]):
        raise NoStanding(standings)
    if standings not in numbers:
        raise NoStanding(standings)
    return numbers[standings]
