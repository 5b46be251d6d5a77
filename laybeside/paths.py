"""Paths through a field: what their steps are worth, and the rows that are laid by them."""

from laybeside.errors import Bare, Unlike, refuse_no_place, refuse_wrong
from laybeside.fields import MOST, Field
from laybeside.kinds import are_ends, is_from_nought, is_gapped, is_path, is_row, is_step

WHOLE = (False, False, False, False)
WITHIN = (False, False, True, True)
FREE = (True, True, True, True)
TURNED = {"b": "b", "o": "u", "u": "o"}
# How many places over and how many under each step passes.
PASSED = {"b": (1, 1), "o": (1, 0), "u": (0, 1)}


class Steps:
    """The steps of a field, some ends given: which lead on, and what they are worth.

    They may be held within a strip, of the cells (at, to) with low <= to - at <= high_edge.
    Nothing that is handed in is looked at, as whoever asks has looked at it already.
    """

    def __init__(self, field, ends, *, low=-MOST, high_edge=MOST):
        self._high = field.high()
        self._wide = field.wide()
        self._pairs = field.pairs()
        self._over = field.over_prices()
        self._under = field.under_prices()
        self._opening = field.opening()
        self._ends = ends
        self._low = low
        self._high_edge = high_edge

    def high(self):
        """How many places over there are."""
        return self._high

    def first(self, at):
        """The first column of a line within the strip."""
        return max(0, at + self._low)

    def last(self, at):
        """The last column of a line within the strip."""
        return min(self._wide, at + self._high_edge)

    def leading_on(self, at, to):
        """The steps that lead on from a cell, in their order."""
        told = ""
        if at < self._high and to < self._wide:
            told += "b"
        if at < self._high and self.first(at + 1) <= to:
            told += "o"
        if to + 1 <= self.last(at):
            told += "u"
        return told

    def worth(self, at, to, step, ahead):
        """What a step at a cell is worth behind another one."""
        if step == "b":
            return self._pairs[at][to]
        over_head, over_tail, under_head, under_tail = self._ends
        if step == "o":
            free = (to == 0 and over_head) or (to == self._wide and over_tail)
            price = self._over[at]
        else:
            free = (at == 0 and under_head) or (at == self._high and under_tail)
            price = self._under[to]
        if free:
            return 0
        return -price if step == ahead else -price - self._opening


def cell_behind(at, to, step):
    """The cell to which a step leads from a cell."""
    over, under = PASSED[step]
    return at + over, to + under


def _has_so_many(path, over, under):
    """Whether the path goes through so many places over and so many under."""
    return len(path) - path.count("u") == over and len(path) - path.count("o") == under


def fits(field, path):
    """Whether the path leads through just the places of the field."""
    refuse_wrong([isinstance(field, Field), is_path(path)])
    return _has_so_many(path, field.high(), field.wide())


def worth_of_path(field, path, *, ends=WHOLE):
    """What the steps of the path are worth, added up."""
    refuse_wrong([isinstance(field, Field), is_path(path), are_ends(ends)])
    if not _has_so_many(path, field.high(), field.wide()):
        raise Unlike()
    steps = Steps(field, ends)
    worth = 0
    ahead = "b"
    for (at, to), step in zip(cells_of(path), path):
        worth += steps.worth(at, to, step, ahead)
        ahead = step
    return worth


def step_worth(field, at, to, step, ahead, *, ends=WHOLE):
    """What one step is worth at a cell behind another step, b for none."""
    refuse_wrong([
        isinstance(field, Field), is_from_nought(at), is_from_nought(to),
        is_step(step), is_step(ahead), are_ends(ends),
    ])
    # A step that passes no place over may stand in the last line too, and likewise in the last column.
    refuse_no_place(at, field.high() + 1 if step == "u" else field.high())
    refuse_no_place(to, field.wide() + 1 if step == "o" else field.wide())
    return Steps(field, ends).worth(at, to, step, ahead)


def cells_of(path):
    """The cells that the path goes through, in order."""
    refuse_wrong([is_path(path)])
    at = to = 0
    cells = [(at, to)]
    for step in path:
        at, to = cell_behind(at, to, step)
        cells.append((at, to))
    return cells


def runs_of(path):
    """The runs of the path, tuples of a step and how many of it stand together."""
    refuse_wrong([is_path(path)])
    runs = []
    for step in path:
        many = 1
        if runs and runs[-1][0] == step:
            many = runs.pop()[1] + 1
        runs.append((step, many))
    return runs


def turned_path(path):
    """The path with o in the place of u and u in the place of o."""
    refuse_wrong([is_path(path)])
    return "".join([TURNED[step] for step in path])


def spread(row, path, gap):
    """The row laid by the path, with - for each step of the kind that is a gap in it."""
    letters = ""
    at = 0
    for step in path:
        if step == gap:
            letters += "-"
        else:
            letters += row[at]
            at += 1
    return letters


def gapped(over, under, path):
    """The two rows laid by the path, as two gapped rows."""
    refuse_wrong([is_row(over), is_row(under), is_path(path)])
    if not _has_so_many(path, len(over), len(under)):
        raise Unlike()
    return spread(over, path, "u"), spread(under, path, "o")


def _step_between(one, other):
    if one == "-":
        return "u"
    return "o" if other == "-" else "b"


def path_between(one, other):
    """The path by which two gapped rows of one length are laid."""
    refuse_wrong([is_gapped(one), is_gapped(other)])
    if len(one) != len(other):
        raise Unlike()
    for at, signs in enumerate(zip(one, other)):
        if signs == ("-", "-"):
            raise Bare(at)
    return "".join([_step_between(over, under) for over, under in zip(one, other)])
