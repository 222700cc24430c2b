"""Worlds whose standings are told by tuples at first.

A table has for each tuple the pair of the list of the tuples to which turns lead, and the
list of the asks; each ask is a pair of its name and the list of its answers, a pair of the
next tuple and the price. The numbers are a dict of the number of each tuple, in their order.
"""

from neverowing.worlds import World


def numbers_of(lots):
    """The dict of the number of each tuple of a list."""
    return {lot: k for k, lot in enumerate(lots)}


def rows_of(numbers, table):
    """The turns and the asks of the world, by the numbers of the tuples."""
    turns = []
    rows = []
    for lot in numbers:
        goals, asks = table[lot]
        turns.append(tuple(sorted({numbers[goal] for goal in goals})))
        rows.append(tuple([(name, tuple(sorted([(numbers[goal], price) for goal, price in answers])))
                           for name, answers in asks]))
    return tuple(turns), tuple(rows)


def world_from(numbers, table, begin):
    """The world of the table that starts at this tuple."""
    turns, asks = rows_of(numbers, table)
    return World(turns, asks, start=numbers[begin])


def grouped(lots, contents):
    """The dict of the lists of the tuples that are alike in their contents, which a function tells."""
    groups = {}
    for lot in lots:
        groups.setdefault(contents(lot), []).append(lot)
    return groups
