"""What several functions ask of their arguments."""

from neverowing.errors import BadCount, NoStanding
from neverowing.kinds import is_index, is_integer

MOST_ASKS = 300


def check_count(value, least, most):
    """Raises BadCount unless the value is an integer within these bounds."""
    if not is_integer(value) or not least <= value <= most:
        raise BadCount(value)


def start_of(world, start):
    """The standing that is meant: the start of the world for None."""
    if start is None:
        return world.start
    if not is_index(start, world.size):
        raise NoStanding(start)
    return start


def goal_in(answers, entry):
    """True if the entry, any value, is a next standing of the answers."""
    return is_integer(entry) and entry in [goal for goal, _ in answers]
