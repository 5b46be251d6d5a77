"""Stretches: the parts of a field's paths that are worth the most."""

from laybeside.bounds import Bounds, first_step, table_of, told_bound
from laybeside.errors import refuse_wrong
from laybeside.fields import Field, field_of
from laybeside.kinds import STEPS
from laybeside.paths import WHOLE, WITHIN, Steps, cell_behind


class Stretches:
    """The most that stretches from each cell on may be worth, and the first stretch that is worth it."""

    def __init__(self, field):
        refuse_wrong([isinstance(field, Field)])
        self._steps = Steps(field, WHOLE)
        self._table = table_of(self._steps, True)

    def bound(self, at, to, step):
        """The most that steps from a cell on may be worth, behind a step, wherever they stop."""
        return told_bound(self._table, at, to, step)

    def table(self):
        """The bounds: for each line a new list with a tuple for each cell."""
        return [list(line) for line in self._table]

    def worth(self):
        """The most that a stretch is worth."""
        return max([cell[0] for line in self._table for cell in line])

    def told(self):
        """The stretch that is worth the most, with the least cell and of these the least text."""
        worth = self.worth()
        cells = [
            (at, to) for at, line in enumerate(self._table)
            for to, cell in enumerate(line) if cell[0] == worth
        ]
        at, to = cells[0]
        return at, to, self._path_from(at, to)

    def _path_from(self, at, to):
        """The least text that meets the bound of a cell."""
        path = ""
        ahead = "b"
        # A text goes ahead of those that it begins, so it ends where nothing more is to be won.
        while self._table[at][to][STEPS.index(ahead)] > 0:
            ahead = first_step(self._table, self._steps, at, to, ahead)
            path += ahead
            at, to = cell_behind(at, to, ahead)
        return path


def within(over, under, scale):
    """Where an over row lies within an under row: the worth, the first letter, the one behind, the path."""
    bounds = Bounds(field_of(over, under, scale), ends=WITHIN)
    path = bounds.path()
    first = len(path) - len(path.lstrip("u"))
    left = len(path) - len(path.rstrip("u"))
    # Where the path has nothing but u, the same u stand on both sides.
    behind = max(first, len(under) - left)
    return bounds.worth(), first, behind, path.strip("u")
