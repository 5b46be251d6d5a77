"""Sheets: two rows that may be changed, with the bounds of their field."""

from laybeside.bounds import Bounds
from laybeside.errors import NoPlace, TooLong, refuse_no_place, refuse_wrong
from laybeside.fields import field_of
from laybeside.kinds import MOST_ROW, is_filled_row, is_from_nought, is_from_to, is_letter, is_side
from laybeside.scales import refuse_strange


def row_put(row, at, letters, scale):
    """The row with letters put in at a place."""
    refuse_no_place(at, len(row) + 1)
    if len(row) + len(letters) > MOST_ROW:
        raise TooLong(MOST_ROW)
    refuse_strange(letters, scale)
    return row[:at] + letters + row[at:]


def row_taken(row, at, many):
    """The row with so many letters taken out from a place on."""
    if at + many > len(row):
        raise NoPlace(at)
    return row[:at] + row[at + many:]


def row_turned(row, at, letter, scale):
    """The row with another letter at a place."""
    refuse_no_place(at, len(row))
    refuse_strange(letter, scale)
    return row[:at] + letter + row[at + 1:]


class Sheet:
    """An over row and an under row, by a scale: each may be changed, and their bounds are told as they are now."""

    def __init__(self, over, under, scale):
        self._bounds = Bounds(field_of(over, under, scale))
        self._rows = {"over": over, "under": under}
        self._scale = scale

    def put(self, side, at, letters):
        """Put letters into the row of a side; told is how many lines may have other bounds."""
        refuse_wrong([is_side(side), is_from_nought(at), is_filled_row(letters)])
        self._change(side, row_put(self._rows[side], at, letters, self._scale))
        return at + len(letters)

    def take(self, side, at, many):
        """Take so many letters out of the row of a side; told is how many lines may have other bounds."""
        refuse_wrong([is_side(side), is_from_nought(at), is_from_to(many, 1, MOST_ROW)])
        self._change(side, row_taken(self._rows[side], at, many))
        return at

    def turn(self, side, at, letter):
        """Turn a letter in the row of a side; told is how many lines may have other bounds."""
        refuse_wrong([is_side(side), is_from_nought(at), is_letter(letter)])
        self._change(side, row_turned(self._rows[side], at, letter, self._scale))
        return at + 1

    def row(self, side):
        """The row of a side."""
        refuse_wrong([is_side(side)])
        return self._rows[side]

    def bound(self, at, to, step):
        """The most that steps from a cell on may be worth, behind a step."""
        return self._bounds_now().bound(at, to, step)

    def worth(self):
        """The most that a path is worth."""
        return self._bounds_now().worth()

    def path(self):
        """The least text of the paths that are worth the most."""
        return self._bounds_now().path()

    def copied(self):
        """A sheet with the same rows, which goes on by itself."""
        return Sheet(self._rows["over"], self._rows["under"], self._scale)

    def _change(self, side, row):
        self._rows[side] = row
        # Made anew only when they are asked for, as many deeds may follow one another.
        self._bounds = None

    def _bounds_now(self):
        """The bounds of the rows as they are now."""
        if self._bounds is None:
            self._bounds = Bounds(field_of(self._rows["over"], self._rows["under"], self._scale))
        return self._bounds
