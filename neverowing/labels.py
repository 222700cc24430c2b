"""Things in a row with labels that ascend; a newcomer may change the labels of the others."""

from itertools import combinations

from neverowing.checks import check_count
from neverowing.errors import BadGap, BadLot, BadPlace
from neverowing.kinds import is_ascending, is_index
from neverowing.tables import numbers_of, world_from

MOST_THINGS = 4
MOST_LABELS = 7
GAP_LETTERS = "abcde"


class LabelWorld:
    """The standings are the ascending tuples of the labels."""

    def __init__(self, things, labels):
        check_count(things, 1, MOST_THINGS)
        check_count(labels, things, MOST_LABELS)
        self.things = things
        self.labels = labels

    def standings(self):
        """The list of all standings, ordered by the number of labels."""
        return [lot for many in range(self.things + 1) for lot in self._lots(many)]

    def gaps(self, standing):
        """The list of the gaps at which a newcomer may come."""
        self._check_lot(standing)
        return list(range(len(standing) + 1)) if len(standing) < self.things else []

    def nexts(self, standing, gap):
        """The ascending list of the standings with one label more."""
        if not is_index(gap, len(self.gaps(standing))):
            raise BadGap(gap)
        return self._lots(len(standing) + 1)

    def moved(self, standing, gap, goal):
        """How many of the things that stood there change their label."""
        nexts = self.nexts(standing, gap)
        if not self._is_lot(goal) or goal not in nexts:
            raise BadLot(goal)
        return len([old for old, new in zip(standing, without_item(goal, gap)) if old != new])

    def left(self, standing, place):
        """The standing without the thing at the place."""
        self._check_lot(standing)
        if not is_index(place, len(standing)):
            raise BadPlace(place)
        return without_item(standing, place)

    def as_world(self):
        """The world that starts with nothing."""
        lots = self.standings()
        return world_from(numbers_of(lots), {lot: (self._leavings(lot), self._asks(lot)) for lot in lots}, ())

    def _lots(self, many):
        """The ascending list of the standings with so many labels."""
        labels = list(range(self.labels))
        return list(combinations(labels, int(many)))

    def _is_lot(self, value):
        if not isinstance(value, tuple) or len(value) > self.things:
            return False
        return all([is_index(label, self.labels) for label in value]) and is_ascending(value)

    def _check_lot(self, value):
        if not self._is_lot(value):
            raise BadLot(value)

    def _leavings(self, lot):
        """The standings that are left when one thing leaves."""
        return [self.left(lot, place) for place in range(len(lot))]

    def _asks(self, lot):
        """The asks of a standing, with standings as next ones."""
        return [("g" + GAP_LETTERS[gap], [(goal, self.moved(lot, gap, goal)) for goal in self.nexts(lot, gap)])
                for gap in self.gaps(lot)]


def without_item(items, at):
    """The tuple without the item at this index."""
    return items[:at] + items[at + 1:]
