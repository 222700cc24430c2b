"""The kinds of values that callers pass."""

LETTERS = "abcdefghijklmnopqrstuvwxyz"
LONGEST_NAME = 12


def is_integer(value):
    """True just for an integer; Python counts flags as integers, the package does not."""
    return isinstance(value, int) and not isinstance(value, bool)


def is_from_zero(value):
    """True just for an integer from 0 on."""
    return is_integer(value) and value >= 0


def is_index(value, size):
    """True just for an integer from 0 to size - 1."""
    return is_integer(value) and 0 <= value < size


def is_name(value):
    """True just for a string that may be the name of an ask."""
    if not isinstance(value, str) or not 1 <= len(value) <= LONGEST_NAME:
        return False
    return all([letter in LETTERS for letter in value])


def is_ascending(items):
    """True if each item is less than the one behind it; the items are of one kind."""
    return all([low < high for low, high in zip(items, items[1:])])


def copied(value):
    """The value with new lists and dicts, also within lists, dicts and tuples."""
    if isinstance(value, list):
        return [copied(item) for item in value]
    if isinstance(value, tuple):
        return tuple([copied(item) for item in value])
    if isinstance(value, dict):
        return {key: copied(value[key]) for key in value}
    return value
