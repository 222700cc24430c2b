"""Wishes that hold seats; a wish that comes may make others change to other seats of theirs."""

from neverowing.errors import BadLot, BadPlace, BadSeats, BadWish
from neverowing.kinds import is_ascending, is_index, is_integer
from neverowing.tables import grouped, numbers_of, world_from
from neverowing.worlds import replaced

MOST_SEATS = 4
MOST_WISHES = 4
WISH_LETTERS = "abcd"
NOBODY = -1


class SeatWorld:
    """The standings are the holdings, tuples of the number of the wish that holds each seat."""

    def __init__(self, seats, wishes):
        if not is_integer(seats) or not 1 <= seats <= MOST_SEATS:
            raise BadSeats("seats")
        if not are_wishes(wishes, seats):
            raise BadSeats("wishes")
        holdings = holdings_of(seats, wishes)
        self.seats = seats
        self.wishes = wishes
        self._numbers = numbers_of(holdings)
        self._alike = grouped(holdings, seated_in)

    def standings(self):
        """The ascending list of all holdings."""
        return list(self._numbers)

    def nexts(self, holding, wish):
        """The ascending list of the holdings that seat one wish more of this number."""
        self._check_holding(holding)
        if not is_index(wish, len(self.wishes)):
            raise BadWish(wish)
        return list(self._alike.get(tuple(sorted(seated_in(holding) + (wish,))), []))

    def moved(self, holding, wish, goal):
        """The price: how many held seats change."""
        nexts = self.nexts(holding, wish)
        if not self._is_holding(goal) or goal not in nexts:
            raise BadLot(goal)
        return seats_changed(holding, goal)

    def left(self, holding, seat):
        """The holding in which nobody holds this seat."""
        self._check_holding(holding)
        if not is_index(seat, self.seats) or holding[seat] == NOBODY:
            raise BadPlace(seat)
        return replaced(holding, seat, (NOBODY,))

    def as_world(self):
        """The world that starts with all seats empty."""
        table = {holding: (self._leavings(holding), self._asks(holding)) for holding in self._numbers}
        return world_from(self._numbers, table, (NOBODY,) * self.seats)

    def _is_holding(self, value):
        if not isinstance(value, tuple) or not all([is_integer(wish) for wish in value]):
            return False
        return value in self._numbers

    def _check_holding(self, value):
        if not self._is_holding(value):
            raise BadLot(value)

    def _leavings(self, holding):
        """The holdings that are left when one wish leaves."""
        return [self.left(holding, seat) for seat, wish in enumerate(holding) if wish != NOBODY]

    def _asks(self, holding):
        """The asks of a holding, with holdings as next ones."""
        asks = []
        for wish in range(len(self.wishes)):
            nexts = self.nexts(holding, wish)
            if len(nexts) > 0:
                asks.append(("w" + WISH_LETTERS[wish], [(goal, seats_changed(holding, goal)) for goal in nexts]))
        return asks


def are_wishes(value, seats):
    """True for a tuple of 1 to 4 unlike wishes."""
    if not isinstance(value, tuple) or not 1 <= len(value) <= MOST_WISHES:
        return False
    return all([is_wish(wish, seats) for wish in value]) and len(set(value)) == len(value)


def is_wish(value, seats):
    """True for a nonempty ascending tuple of seats."""
    if not isinstance(value, tuple) or len(value) == 0:
        return False
    return all([is_index(seat, seats) for seat in value]) and is_ascending(value)


def holdings_of(seats, wishes):
    """The ascending list of all holdings."""
    rows = [()]
    for seat in range(seats):
        holders = [NOBODY] + [number for number, wish in enumerate(wishes) if seat in wish]
        rows = [row + (holder,) for row in rows for holder in holders]
    return rows


def seated_in(holding):
    """The ascending tuple of the wishes that hold seats, each as often as it does."""
    return tuple(sorted([wish for wish in holding if wish != NOBODY]))


def seats_changed(holding, goal):
    """How many seats were held and change, also to another wish."""
    return len([old for old, new in zip(holding, goal) if old != NOBODY and old != new])
