"""Incomes and certificates of a whole, put together from those of its parts."""

from math import lcm

from neverowing.errors import BadIncomes, BadPapers, BadWhole
from neverowing.incomes import is_income, is_share_from_zero, shares_of, terms_of_income
from neverowing.kinds import is_integer
from neverowing.papers import foe_fault, foe_walk, keeper_fault, keeper_walk
from neverowing.shares import Share
from neverowing.wholes import PART_LETTERS, Behind, Side, moved_part


def join_income(whole, incomes):
    """The income of the whole that comes of incomes of the parts."""
    check_incomes(whole, incomes)
    shares = [shares_of(part, income) for part, income in zip(whole.parts, incomes)]
    if isinstance(whole, Side):
        return {PART_LETTERS[k] + name: row[name] for k, row in enumerate(shares) for name in row}
    if isinstance(whole, Behind):
        return {name: shares[0][name] + incomes[1] for name in whole.world.names()}
    return {name: sum([row[name] for row in shares], start=Share(0)) for name in whole.world.names()}


def check_incomes(whole, incomes):
    """Raises BadIncomes unless there is an income for each part."""
    if not isinstance(incomes, list) or len(incomes) != len(whole.parts):
        raise BadIncomes(-1)
    for index, part in enumerate(whole.parts):
        if not is_income(part, incomes[index]):
            raise BadIncomes(index)
    # What comes in at an ask of the second part is not told by the name of the whole's ask.
    if isinstance(whole, Behind) and not is_share_from_zero(incomes[1]):
        raise BadIncomes(1)


def join_keeper(whole, incomes, papers):
    """The keeper's certificate of the whole that comes of certificates of the parts."""
    check_incomes(whole, incomes)
    check_papers(whole, papers)
    for index, part in enumerate(whole.parts):
        if not is_keeper_paper(part, incomes[index], papers[index]):
            raise BadPapers(index)
    weights = weights_of(whole, incomes)
    heights = {}
    table = {}
    tables = [paper[1] for paper in papers]
    walks = [keeper_walk(part, ways, part.start) for part, ways in zip(whole.parts, tables)]
    for number, standings in tuples_within(whole, walks):
        levels = [paper[0][standing] for paper, standing in zip(papers, standings)]
        heights[number] = weighed(weights, levels)
        for name in whole.world.asked(number):
            table[(number, name)] = whole.number_of(whole.joined_goals(tables, standings, name))
    return heights, table


def join_foe(side, incomes, papers):
    """The foe's certificate of worlds side by side that comes of certificates of the parts."""
    if not isinstance(side, Side):
        raise BadWhole("worlds")
    check_incomes(side, incomes)
    check_papers(side, papers)
    for index, part in enumerate(side.parts):
        if not is_foe_paper(part, incomes[index], papers[index]):
            raise BadPapers(index)
    weights = weights_of(side, incomes)
    walks = [foe_walk(part, paper[0], paper[2], part.start) for part, paper in zip(side.parts, papers)]
    high = 1 + greatest_rank(papers, walks)
    lows = {}
    ranks = {}
    moves = {}
    for number, standings in tuples_within(side, walks):
        levels = [max(0, paper[0][standing]) for paper, standing in zip(papers, standings)]
        lows[number] = weighed(weights, levels)
        ranks[number] = 0
        dear = [k for k, level in enumerate(levels) if level > 0]
        if len(dear) > 0:
            first = dear[0]
            ranks[number] = len(dear) * high + papers[first][1][standings[first]]
            moves[number] = part_move(side, standings, first, papers[first][2][standings[first]])
    return lows, ranks, moves


def check_papers(whole, papers):
    """Raises BadPapers unless the value is a list with an item for each part."""
    if not isinstance(papers, list) or len(papers) != len(whole.parts):
        raise BadPapers(-1)


def is_keeper_paper(part, income, paper):
    """True for a keeper's certificate without a fault, from the start of the part."""
    if not isinstance(paper, tuple) or len(paper) != 2:
        return False
    heights, table = paper
    return keeper_fault(part, income, entry_at(heights, part.start), heights, table, start=part.start) is None


def is_foe_paper(part, income, paper):
    """True for a foe's certificate without a fault, from the start of the part."""
    if not isinstance(paper, tuple) or len(paper) != 3:
        return False
    lows, ranks, moves = paper
    return foe_fault(part, income, entry_at(lows, part.start), lows, ranks, moves, start=part.start) is None


def entry_at(numbers, standing):
    """The integer at the standing; 0 where there is none, which is a fault of the certificate."""
    entry = numbers.get(standing) if isinstance(numbers, dict) else None
    return entry if is_integer(entry) else 0


def weights_of(whole, incomes):
    """The pair of how much a grain of each part weighs, and of how much a grain of the whole weighs."""
    grains = [terms_of_income(part, income)[0] for part, income in zip(whole.parts, incomes)]
    grain = terms_of_income(whole.world, join_income(whole, incomes))[0]
    common = 1
    for one in grains + [grain]:
        common = lcm(common, one)
    return [common // one for one in grains], common // grain


def weighed(weights, levels):
    """The greatest number of grains of the whole that is not above these grains of the parts together."""
    parts, whole = weights
    return sum([weight * level for weight, level in zip(parts, levels)]) // whole


def tuples_within(whole, walks):
    """The pairs of number and tuple of the standings whose parts all are on their walks."""
    pairs = [(number, whole.tuple_of(number)) for number in range(whole.world.size)]
    return [(number, standings) for number, standings in pairs
            if all([standing in walk for standing, walk in zip(standings, walks)])]


def greatest_rank(papers, walks):
    """The greatest rank of a standing with a low above 0 on the walks, 0 if there is none."""
    ranks = [paper[1][standing] for paper, walk in zip(papers, walks) for standing in walk if paper[0][standing] > 0]
    return max([0] + ranks)


def part_move(side, standings, k, move):
    """The move of the whole that is this move of the part k."""
    standing, name = move
    return side.number_of(moved_part(standings, k, standing)), PART_LETTERS[k] + name
