"""Cuts: the path told in little room, by halving the lines of its field."""

from laybeside.bounds import fill_line, first_step
from laybeside.errors import refuse_wrong
from laybeside.fields import Field
from laybeside.kinds import are_ends
from laybeside.paths import WHOLE, Steps, cell_behind, worth_of_path


def _line_ahead(steps, at, behind, below):
    """The bounds of a line, by those of a line that stands behind it."""
    lines = {behind: below}
    for line in range(behind - 1, at - 1, -1):
        fill_line(lines, steps, line, False)
        # No more than two lines are kept at once: that is the little room.
        del lines[line + 1]
    return lines[at]


def _down_one_line(steps, top, below, column, ahead):
    """The steps of the path from its first cell in a line to its first one in the next line."""
    lines = {top + 1: below}
    fill_line(lines, steps, top, False)
    at, to = top, column
    path = ""
    while at == top:
        ahead = first_step(lines, steps, at, to, ahead)
        path += ahead
        at, to = cell_behind(at, to, ahead)
    return path


def _column_behind(column, path):
    """The column to which steps lead from another one."""
    return column + len(path) - path.count("o")


def _halved(steps, top, behind, below, column, ahead):
    """The steps of the path from its first cell in line top to its first one in line behind, and the cuts.

    below holds the bounds of line behind; the path comes to line top in this column, by the step ahead.
    """
    if top == behind:
        return "", []
    if behind - top < 2:
        return _down_one_line(steps, top, below, column, ahead), []
    middle = (top + behind) // 2
    kept = _line_ahead(steps, middle, behind, below)
    upper, upper_cuts = _halved(steps, top, middle, kept, column, ahead)
    between = _column_behind(column, upper)
    lower, lower_cuts = _halved(steps, middle, behind, below, between, upper[-1])
    cut = (top, middle, behind, between, upper[-1])
    return upper + lower, [cut, *upper_cuts, *lower_cuts]


def cut_way(field, *, ends=WHOLE):
    """The worth, the path that is told, and the cuts in the order in which they are made."""
    refuse_wrong([isinstance(field, Field), are_ends(ends)])
    steps = Steps(field, ends)
    lines = {}
    fill_line(lines, steps, field.high(), False)
    path, cuts = _halved(steps, 0, field.high(), lines[field.high()], 0, "b")
    # Within the last line nothing but u leads on.
    path += "u" * (field.wide() - _column_behind(0, path))
    return worth_of_path(field, path, ends=ends), path, cuts
