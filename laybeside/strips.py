"""Strips: the path told by the cells along the middle, and a paper that shows that no other is worth more."""

from laybeside.bounds import path_by, table_of
from laybeside.errors import NoPlace, refuse_wrong
from laybeside.fields import MOST, Field
from laybeside.kinds import is_from_to
from laybeside.paths import WHOLE, Steps

FIRST = 2
MOST_EDGE = 200


def _most_with(field, over, under):
    """What a path with so many places over alone, and so many under, may be worth at most; None for no path."""
    if over > field.high() or under > field.wide():
        return None
    tops = sorted([max([0, *line]) for line in field.pairs()], reverse=True)
    worth = sum(tops[:field.high() - over])
    prices = sum(sorted(field.over_prices())[:over]) + sum(sorted(field.under_prices())[:under])
    return worth - prices - 2 * field.opening()


def strip_paper(field, low, high_edge):
    """The most that paths may be worth that leave the strip above, and below; None where none does."""
    refuse_wrong([
        isinstance(field, Field), is_from_to(low, -MOST_EDGE, MOST_EDGE), is_from_to(high_edge, -MOST_EDGE, MOST_EDGE),
    ])
    aside = field.wide() - field.high()
    if low > min(0, aside):
        raise NoPlace(low)
    if high_edge < max(0, aside):
        raise NoPlace(high_edge)
    above = _most_with(field, high_edge + 1 - aside, high_edge + 1)
    below = _most_with(field, 1 - low, aside - low + 1)
    return above, below


def _way_within(field, breadth):
    """What is told of the strip of a breadth, be it wide enough or not."""
    aside = field.wide() - field.high()
    low = min(0, aside) - breadth
    high_edge = max(0, aside) + breadth
    steps = Steps(field, WHOLE, low=low, high_edge=high_edge)
    table = table_of(steps, False)
    above, below = strip_paper(field, low, high_edge)
    return table[0][0][0], path_by(table, steps), low, high_edge, above, below


def _is_wide_enough(way):
    """Whether no path that leaves the strip is worth as much as the one that is told."""
    return all(number is None or number < way[0] for number in way[-2:])


def strip_way(field, *, breadth=FIRST):
    """The worth and the path by the first strip, of growing breadths, that is wide enough, its edges and paper."""
    refuse_wrong([isinstance(field, Field), is_from_to(breadth, 0, MOST)])
    way = _way_within(field, breadth)
    while not _is_wide_enough(way):
        breadth = 2 * breadth + 1
        way = _way_within(field, breadth)
    return way
