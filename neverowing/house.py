"""A house runs a world live: the foe turns and asks, the keeper answers out of the purse."""

from neverowing.errors import BadCount, BadDeed, NoSafe, NoStanding, NoTurn, Owing
from neverowing.incomes import terms_of_income
from neverowing.kinds import is_from_zero, is_index
from neverowing.purses import purses

MOST_DEEDS = 200


class House:
    """A state is a tuple (standing, purse, answered, paid)."""

    def __init__(self, world, income, purse):
        grain, gains = terms_of_income(world, income)
        if not is_from_zero(purse):
            raise BadCount(purse)
        self.world = world
        self.standing = world.start
        self.purse = purse
        self.answered = 0
        self.paid = 0
        self._grain = grain
        self._gains = gains
        self._least = purses(world, income)
        self._past = []

    def __len__(self):
        return len(self._past)

    def __contains__(self, thing):
        return thing in [name for name, _ in self.world.asks[self.standing]]

    def __iadd__(self, deeds):
        check_deeds(deeds)
        for _, state in self._run(deeds):
            self._go_on(state)
        return self

    def turn(self, standing):
        """The foe turns to this standing."""
        self._go_on(self._turned(self._state(), standing))

    def answer(self, name, goal):
        """Answers an ask with this next standing; returns the price."""
        price = self.world.price(self.standing, name, goal)
        state = self._answered(self._state(), name, goal, price)
        if state[1] < 0:
            raise Owing(-state[1])
        self._go_on(state)
        return price

    def safe(self, name):
        """The ascending list of the next standings that are safe."""
        return [goal for goal, _ in self._safe_answers(self._state(), name)]

    def is_safe(self):
        """True if the purse of now is enough, whatever is asked and however long."""
        return self._is_enough(self.purse, self.standing)

    def ask(self, name):
        """Answers an ask with the cheapest safe answer; returns the pair of the next standing and the price."""
        told, state = self._asked(self._state(), name)
        self._go_on(state)
        return told

    def undo(self):
        """Takes back the last turn or answer; returns whether there was one."""
        if len(self._past) == 0:
            return False
        self._enter(self._past.pop())
        return True

    def trial(self, deeds):
        """What the deeds would tell; the house stays as it is."""
        check_deeds(deeds)
        return [told for told, _ in self._run(deeds)]

    def watch(self, deeds):
        """Does the deeds one after the other; yields behind each what it tells and the purse of then."""
        check_deeds(deeds)
        for deed in list(deeds):
            told, state = self._done(self._state(), deed)
            self._go_on(state)
            yield told, self.purse

    def _state(self):
        return self.standing, self.purse, self.answered, self.paid

    def _enter(self, state):
        self.standing, self.purse, self.answered, self.paid = state

    def _go_on(self, state):
        """Enters a state that can be taken back."""
        self._past.append(self._state())
        self._enter(state)

    def _run(self, deeds):
        """For each deed the pair of what it tells and the state behind it; nothing is done for good."""
        state = self._state()
        run = []
        for deed in deeds:
            told, state = self._done(state, deed)
            run.append((told, state))
        return run

    def _done(self, state, deed):
        """The pair of what a deed tells and the state behind it."""
        word, thing = deed
        if word == "turn":
            return None, self._turned(state, thing)
        return self._asked(state, thing)

    def _turned(self, state, standing):
        """The state behind a turn to this standing."""
        if not is_index(standing, self.world.size):
            raise NoStanding(standing)
        if standing not in self.world.turns[state[0]]:
            raise NoTurn(standing)
        return (standing,) + state[1:]

    def _asked(self, state, name):
        """The pair of the cheapest safe answer and the state behind it."""
        answers = self._safe_answers(state, name)
        if len(answers) == 0:
            raise NoSafe(name)
        price, goal = min([(price, goal) for goal, price in answers])
        return (goal, price), self._answered(state, name, goal, price)

    def _safe_answers(self, state, name):
        """The list of the safe answers of an ask at the standing of the state."""
        answers = self.world.answers(state[0], name)
        return [(goal, price) for goal, price in answers
                if self._is_enough(self._answered(state, name, goal, price)[1], goal)]

    def _answered(self, state, name, goal, price):
        """The state behind this answer of an ask."""
        _, purse, answered, total = state
        return goal, purse + self._gains[name] - self._grain * price, answered + 1, total + price

    def _is_enough(self, purse, standing):
        """True if the purse is at least the least one of the standing."""
        least = self._least[standing]
        return least is not None and purse >= least


def check_deeds(deeds):
    """Raises BadDeed unless the value is a list of deeds."""
    if not isinstance(deeds, list) or len(deeds) > MOST_DEEDS:
        raise BadDeed(-1)
    for index, deed in enumerate(deeds):
        if not isinstance(deed, tuple) or len(deed) != 2 or deed[0] not in ["turn", "ask"]:
            raise BadDeed(index)
