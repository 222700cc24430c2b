"""Calls through an exchange: input switches and output switches, joined by middles."""

from itertools import permutations

from neverowing.errors import BadExchange, BadLot, BadPair, NoRoom, TooMany
from neverowing.kinds import is_index, is_integer
from neverowing.tables import grouped, numbers_of, world_from
from neverowing.worlds import MOST_STANDINGS, replaced

MOST_SWITCHES = 3
MOST_DOORS = 3
MOST_MIDDLES = 4
SWITCH_LETTERS = "abc"


class CallWorld:
    """The standings are the ascending tuples of the loads of the middles."""

    def __init__(self, ins, outs, middles):
        if not are_doors(ins):
            raise BadExchange("ins")
        if not are_doors(outs):
            raise BadExchange("outs")
        if not is_integer(middles) or not 1 <= middles <= MOST_MIDDLES:
            raise BadExchange("middles")
        if middles < degree_of(ins, outs):
            raise NoRoom(middles)
        lots = lots_of(ins, outs, middles)
        self.ins = ins
        self.outs = outs
        self.middles = middles
        self._numbers = numbers_of(lots)
        self._alike = grouped(lots, calls_of)

    def standings(self):
        """The ascending list of all standings."""
        return list(self._numbers)

    def open_pairs(self, standing):
        """The ascending list of the pairs of switches that both have a door left."""
        self._check_lot(standing)
        calls = calls_of(standing)
        return [pair for pair in pairs_between(self.ins, self.outs)
                if is_within_doors(self.ins, self.outs, calls + (pair,))]

    def nexts(self, standing, pair):
        """The ascending list of the standings that let a call of the pair."""
        pairs = self.open_pairs(standing)
        if not is_pair(pair) or pair not in pairs:
            raise BadPair(pair)
        return list(self._alike[tuple(sorted(calls_of(standing) + (pair,)))])

    def moved(self, standing, pair, goal):
        """The price: how many places are given up."""
        nexts = self.nexts(standing, pair)
        if not self._is_lot(goal) or goal not in nexts:
            raise BadLot(goal)
        return places_given_up(standing, goal)

    def ended(self, standing, pair, load):
        """The standing without this pair in one load that is equal to this one."""
        self._check_lot(standing)
        if not is_load(load) or load not in standing or not is_pair(pair) or pair not in load:
            raise BadPair(pair)
        rest = replaced(load, load.index(pair), ())
        return tuple(sorted(replaced(standing, standing.index(load), (rest,))))

    def as_world(self):
        """The world that starts without calls."""
        table = {lot: (self._ends(lot), self._asks(lot)) for lot in self._numbers}
        return world_from(self._numbers, table, ((),) * self.middles)

    def _is_lot(self, value):
        if not isinstance(value, tuple) or not all([is_load(load) for load in value]):
            return False
        return value in self._numbers

    def _check_lot(self, value):
        if not self._is_lot(value):
            raise BadLot(value)

    def _ends(self, standing):
        """The standings that are left when one call ends."""
        return [self.ended(standing, pair, load) for load in standing for pair in load]

    def _asks(self, standing):
        """The asks of a standing, with standings as next ones."""
        asks = []
        for pair in self.open_pairs(standing):
            answers = [(goal, places_given_up(standing, goal)) for goal in self.nexts(standing, pair)]
            asks.append(("c" + SWITCH_LETTERS[pair[0]] + SWITCH_LETTERS[pair[1]], answers))
        return asks


def are_doors(value):
    """True for a tuple of the doors of 1 to 3 switches."""
    if not isinstance(value, tuple) or not 1 <= len(value) <= MOST_SWITCHES:
        return False
    return all([is_integer(doors) and 1 <= doors <= MOST_DOORS for doors in value])


def degree_of(ins, outs):
    """The greatest number of calls that one switch may have."""
    return max([min(doors, sum(outs)) for doors in ins] + [min(doors, sum(ins)) for doors in outs])


def pairs_between(ins, outs):
    """The ascending list of all pairs of an input switch and an output switch."""
    return [(i, o) for i in range(len(ins)) for o in range(len(outs))]


def is_pair(value):
    """True for a tuple that may be a pair of switches."""
    return isinstance(value, tuple) and len(value) == 2 and all([is_index(switch, MOST_SWITCHES) for switch in value])


def is_load(value):
    """True for a tuple of what may be pairs of switches."""
    return isinstance(value, tuple) and all([is_pair(pair) for pair in value])


def calls_of(standing):
    """The ascending tuple of the calls of all middles, each as often as it stands."""
    return tuple(sorted([pair for load in standing for pair in load]))


def is_within_doors(ins, outs, calls):
    """True if no switch has more calls than doors."""
    begins = [i for i, _ in calls]
    ends = [o for _, o in calls]
    if any([begins.count(i) > doors for i, doors in enumerate(ins)]):
        return False
    return not any([ends.count(o) > doors for o, doors in enumerate(outs)])


def lots_of(ins, outs, middles):
    """The ascending list of all standings of an exchange."""
    loads = loads_between(ins, outs)
    rows = [()]
    for _ in range(middles):
        # The greatest load comes first, so that each row goes on with empty loads at least.
        rows = [row + (load,) for row in rows for load in loads
                if (len(row) == 0 or load <= row[-1]) and is_within_doors(ins, outs, calls_of(row + (load,)))]
        if len(rows) > MOST_STANDINGS:
            raise TooMany(MOST_STANDINGS)
    return sorted([row[::-1] for row in rows])


def loads_between(ins, outs):
    """The list of all loads: no switch stands twice in a load."""
    ones = tuple([1 for _ in ins])
    others = tuple([1 for _ in outs])
    loads = [()]
    for pair in pairs_between(ins, outs):
        loads = loads + [load + (pair,) for load in loads if is_within_doors(ones, others, load + (pair,))]
    return loads


def places_given_up(standing, goal):
    """The least number of places that are given up, if the loads of the goal are dealt to the middles."""
    return min([places_lost(standing, dealt) for dealt in permutations(list(goal))])


def places_lost(standing, dealt):
    """How many pairs are not in the load that their middle gets."""
    return len([pair for load, given in zip(standing, dealt) for pair in load if pair not in given])
