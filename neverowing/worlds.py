"""Worlds that answer asks at a price."""

from neverowing.errors import BadOrder, BadPrice, BadWorld, NoAnswer, NoAsk, NoStanding
from neverowing.kinds import is_ascending, is_from_zero, is_index, is_integer, is_name

MOST_STANDINGS = 400
MOST_ASKS = 160


class World:
    """Standings with turns and asks; the foe picks turns and asks, the keeper answers."""

    def __init__(self, turns, asks, *, start=0):
        if not are_turns(turns):
            raise BadWorld("turns")
        if not are_asks(asks, len(turns)):
            raise BadWorld("asks")
        if not is_index(start, len(turns)):
            raise BadWorld("start")
        if is_silent(turns, asks):
            raise BadWorld("silent")
        self.turns = turns
        self.asks = asks
        self.start = start
        self.size = len(turns)

    def __eq__(self, other):
        return (isinstance(other, World) and self.turns == other.turns
                and self.asks == other.asks and self.start == other.start)

    def names(self):
        """The ascending list of the names of all asks."""
        return sorted({ask[0] for row in self.asks for ask in row})

    def by_turns(self, standing):
        """The ascending list of the standings that the standing comes to by turns."""
        self._check_standing(standing)
        return come_to([standing], self.turns)

    def asked(self, standing):
        """The ascending list of the names of the asks of the standing."""
        self._check_standing(standing)
        return [ask[0] for ask in self.asks[standing]]

    def answers(self, standing, name):
        """The ascending list of the answers of the ask."""
        return list(self._answers_of(standing, self._ask_at(standing, name)))

    def price(self, standing, name, goal):
        """The price of the answer with this next standing."""
        answers = self._answers_of(standing, self._ask_at(standing, name))
        return answers[answer_at(answers, goal)][1]

    def reach(self, standing):
        """The ascending list of the standings that the standing comes to by turns and answers."""
        self._check_standing(standing)
        steps = [self.turns[k] + goals_of(self.asks[k]) for k in range(self.size)]
        return come_to([standing], steps)

    def with_start(self, start):
        """The same world with another start."""
        return World(self.turns, self.asks, start=start)

    def with_price(self, standing, name, goal, price):
        """The same world with another price of this answer."""
        at = self._ask_at(standing, name)
        answers = self._answers_of(standing, at)
        spot = answer_at(answers, goal)
        if not is_from_zero(price):
            raise BadPrice(price)
        return self._with_answers(standing, at, replaced(answers, spot, ((goal, price),)))

    def without_answer(self, standing, name, goal):
        """The same world without this answer, which is not the only one of its ask."""
        at = self._ask_at(standing, name)
        answers = self._answers_of(standing, at)
        spot = answer_at(answers, goal)
        if len(answers) == 1:
            raise NoAnswer(goal)
        return self._with_answers(standing, at, replaced(answers, spot, ()))

    def without_ask(self, standing, name):
        """The same world without this ask."""
        at = self._ask_at(standing, name)
        return self._with_row(standing, replaced(self.asks[standing], at, ()))

    def scaled(self, factor):
        """The same world with all prices multiplied by the factor."""
        if not is_from_zero(factor):
            raise BadPrice(factor)
        asks = tuple([scaled_row(row, factor) for row in self.asks])
        return World(self.turns, asks, start=self.start)

    def renamed(self, order):
        """The world in which the standing order[k] gets the number k."""
        if not is_order(order, self.size):
            raise BadOrder(order)
        numbers = {standing: k for k, standing in enumerate(order)}
        turns = tuple([renamed_turns(self.turns[standing], numbers) for standing in order])
        asks = tuple([renamed_row(self.asks[standing], numbers) for standing in order])
        return World(turns, asks, start=numbers[self.start])

    def _check_standing(self, standing):
        if not is_index(standing, self.size):
            raise NoStanding(standing)

    def _ask_at(self, standing, name):
        """The index of the ask of this name among the asks of the standing."""
        names = self.asked(standing)
        if name not in names:
            raise NoAsk(name)
        return names.index(name)

    def _answers_of(self, standing, at):
        return self.asks[standing][at][1]

    def _with_answers(self, standing, at, answers):
        """The same world with other answers of the ask at this index."""
        row = self.asks[standing]
        return self._with_row(standing, replaced(row, at, ((row[at][0], answers),)))

    def _with_row(self, standing, row):
        """The same world with other asks of the standing."""
        return World(self.turns, replaced(self.asks, standing, (row,)), start=self.start)


def are_turns(turns):
    """True if the value is right as the turns of a world."""
    if not isinstance(turns, tuple) or not 1 <= len(turns) <= MOST_STANDINGS:
        return False
    return all([are_turns_of(row, standing, len(turns)) for standing, row in enumerate(turns)])


def are_turns_of(row, standing, size):
    """True if the value is right as the turns of this standing."""
    if not isinstance(row, tuple) or not all([is_index(goal, size) for goal in row]):
        return False
    return is_ascending(row) and standing not in row


def are_asks(asks, size):
    """True if the value is right as the asks of a world of this size."""
    if not isinstance(asks, tuple) or len(asks) != size:
        return False
    return all([are_asks_of(row, size) for row in asks])


def are_asks_of(row, size):
    """True if the value is right as the asks of a standing."""
    if not isinstance(row, tuple) or len(row) > MOST_ASKS:
        return False
    return all([is_ask(ask, size) for ask in row]) and is_ascending([ask[0] for ask in row])


def is_ask(ask, size):
    """True for a pair of a name and answers."""
    if not isinstance(ask, tuple) or len(ask) != 2:
        return False
    return is_name(ask[0]) and are_answers(ask[1], size)


def are_answers(answers, size):
    """True if the value is right as the answers of an ask."""
    if not isinstance(answers, tuple) or len(answers) == 0:
        return False
    if not all([is_answer(answer, size) for answer in answers]):
        return False
    # Ascending next standings are unlike, and the prices behind them order nothing.
    return is_ascending([answer[0] for answer in answers])


def is_answer(answer, size):
    """True for a pair of a standing and a price."""
    if not isinstance(answer, tuple) or len(answer) != 2:
        return False
    return is_index(answer[0], size) and is_from_zero(answer[1])


def is_order(order, size):
    """True for a tuple that contains each standing once."""
    if not isinstance(order, tuple) or not all([is_index(standing, size) for standing in order]):
        return False
    return sorted(order) == list(range(size))


def is_silent(turns, asks):
    """True if some standing comes to no ask by turns."""
    # From the standings with an ask, all turns are gone backwards at once.
    back = [[] for _ in range(len(turns))]
    for standing, row in enumerate(turns):
        for goal in row:
            back[goal].append(standing)
    asking = [standing for standing, row in enumerate(asks) if len(row) > 0]
    return len(come_to(asking, back)) < len(turns)


def come_to(starts, steps):
    """The ascending list of what the starts come to by steps, themselves among them."""
    found = {standing: True for standing in starts}
    waiting = list(starts)
    while len(waiting) > 0:
        standing = waiting.pop()
        for goal in steps[standing]:
            if goal not in found:
                found[goal] = True
                waiting.append(goal)
    return sorted(list(found))


def goals_of(row):
    """The tuple of the next standings of all answers of the asks."""
    return tuple([goal for _, answers in row for goal, _ in answers])


def answer_at(answers, goal):
    """The index of the answer with this next standing."""
    goals = [answer[0] for answer in answers]
    if not is_integer(goal) or goal not in goals:
        raise NoAnswer(goal)
    return goals.index(goal)


def replaced(items, at, others):
    """The tuple with the items of others in the place of the item at this index."""
    return items[:at] + others + items[at + 1:]


def scaled_row(row, factor):
    """The asks with all prices multiplied by the factor."""
    return tuple([(name, scaled_answers(answers, factor)) for name, answers in row])


def scaled_answers(answers, factor):
    """The answers with all prices multiplied by the factor."""
    return tuple([(goal, price * factor) for goal, price in answers])


def renamed_turns(row, numbers):
    """The turns by their new numbers."""
    return tuple(sorted([numbers[goal] for goal in row]))


def renamed_row(row, numbers):
    """The asks with the new numbers of their next standings."""
    return tuple([(name, renamed_answers(answers, numbers)) for name, answers in row])


def renamed_answers(answers, numbers):
    """The answers with the new numbers of their next standings."""
    return tuple(sorted([(numbers[goal], price) for goal, price in answers]))
