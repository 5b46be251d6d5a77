"""Bounds: the most that steps from each cell to the last one may be worth."""

from laybeside.errors import refuse_no_place, refuse_wrong
from laybeside.fields import Field
from laybeside.kinds import STEPS, are_ends, is_from_nought, is_list, is_step, is_whole
from laybeside.paths import WHOLE, Steps, cell_behind


def bound_behind(lines, at, to, step):
    """The bound of the cell to which a step leads, this step being ahead there."""
    line, column = cell_behind(at, to, step)
    return lines[line][column][STEPS.index(step)]


def _bounds_of_cell(lines, steps, at, to, anywhere):
    """The bounds of a cell behind b, o and u; one may stop anywhere, or in the last cell alone."""
    leads = [(step, bound_behind(lines, at, to, step)) for step in steps.leading_on(at, to)]
    stop = [0] if anywhere or not leads else []
    worths = [[steps.worth(at, to, step, ahead) + bound for step, bound in leads] for ahead in STEPS]
    return tuple([max(stop + found) for found in worths])


def fill_line(lines, steps, at, anywhere):
    """Put the bounds of a line into lines, a list or a dict, by those of the line behind it.

    What stands in the line ahead of the strip within which the steps are held is None.
    """
    line = [None] * (steps.last(at) + 1)
    lines[at] = line
    for to in range(steps.last(at), steps.first(at) - 1, -1):
        line[to] = _bounds_of_cell(lines, steps, at, to, anywhere)


def table_of(steps, anywhere):
    """The bounds of all lines; one may stop anywhere, or in the last cell alone."""
    table = [None] * (steps.high() + 1)
    for at in range(steps.high(), -1, -1):
        fill_line(table, steps, at, anywhere)
    return table


def meeting_steps(lines, steps, at, to, ahead):
    """The steps that lead on and meet the bound, in their order."""
    bound = lines[at][to][STEPS.index(ahead)]
    return [
        step for step in steps.leading_on(at, to)
        if steps.worth(at, to, step, ahead) + bound_behind(lines, at, to, step) == bound
    ]


def first_step(lines, steps, at, to, ahead):
    """The first step that leads on and meets the bound; None where there is none."""
    meeting = meeting_steps(lines, steps, at, to, ahead)
    return meeting[0] if meeting else None


def path_by(table, steps):
    """The least text of the paths that meet the bounds of a table."""
    at = to = 0
    path = ""
    while step := first_step(table, steps, at, to, path[-1:] or "b"):
        path += step
        at, to = cell_behind(at, to, step)
    return path


def told_bound(table, at, to, step):
    """One bound of a table; what is handed in is looked at here."""
    refuse_wrong([is_from_nought(at), is_from_nought(to), is_step(step)])
    refuse_no_place(at, len(table))
    refuse_no_place(to, len(table[0]))
    return table[at][to][STEPS.index(step)]


class Bounds:
    """The bounds of a field, some ends given, with the worth and the path that meets them."""

    def __init__(self, field, *, ends=WHOLE):
        refuse_wrong([isinstance(field, Field), are_ends(ends)])
        self._ends = ends
        self._steps = Steps(field, ends)
        self._table = table_of(self._steps, False)

    def bound(self, at, to, step):
        """The most that steps from a cell on may be worth, behind a step."""
        return told_bound(self._table, at, to, step)

    def table(self):
        """The bounds: for each line a new list with a tuple for each cell."""
        return [list(line) for line in self._table]

    def worth(self):
        """The most that a path is worth."""
        return self._table[0][0][0]

    def path(self):
        """The least text of the paths that are worth the most."""
        return path_by(self._table, self._steps)

    def ends(self):
        """The ends."""
        return self._ends


def _is_table(thing, high, wide):
    """Whether it is a list of high + 1 lists of wide + 1 tuples of three whole numbers."""
    return is_list(thing, high + 1, high + 1) and all(_is_line(line, wide + 1) for line in thing)


def _is_line(thing, many):
    return is_list(thing, many, many) and all(_are_three(cell) for cell in thing)


def _are_three(thing):
    return isinstance(thing, tuple) and len(thing) == 3 and all(is_whole(number) for number in thing)


def _is_fair_cell(table, steps, at, to):
    """Whether no step that leads on is worth, with the number behind it, more than the one ahead."""
    for step in steps.leading_on(at, to):
        behind = bound_behind(table, at, to, step)
        for ahead, number in zip(STEPS, table[at][to]):
            if steps.worth(at, to, step, ahead) + behind > number:
                return False
    return True


def is_fair(field, table, *, ends=WHOLE):
    """Whether it is a table by which each path is worth at most what is told ahead of it."""
    if not _is_table(table, field.high(), field.wide()) or min(table[-1][-1]) < 0:
        return False
    steps = Steps(field, ends)
    cells = [(at, to) for at in range(len(table)) for to in range(len(table[at]))]
    return all(_is_fair_cell(table, steps, at, to) for at, to in cells)
