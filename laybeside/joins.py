"""Joined rows: gapped rows of one length, joined with others column by column."""

from laybeside.bounds import Bounds
from laybeside.errors import Alone, Bare, NoRow, TooLong, TooMany, Unlike, refuse_wrong
from laybeside.fields import MOST, Field
from laybeside.kinds import is_from_nought, is_gapped, is_list, is_row
from laybeside.paths import path_between, spread
from laybeside.scales import Scale, refuse_strange

MOST_ROWS = 8


def _are_gapped(thing):
    """Whether it is a list of one to eight gapped rows of at most 60 signs."""
    return is_list(thing, 1, MOST_ROWS) and all(is_gapped(row) and len(row) <= MOST for row in thing)


def _are_rows(thing):
    """Whether it is a list of one to eight rows."""
    return is_list(thing, 1, MOST_ROWS) and all(is_row(row) for row in thing)


def _letters_of(signs):
    """The letters of a row or a column, without its gaps."""
    return signs.replace("-", "")


def _columns_of(rows):
    """The columns of rows of one length, each as a text."""
    return ["".join(signs) for signs in zip(*rows)]


def _without_bare_columns(rows):
    """The rows without the columns in which no letter stands."""
    columns = [column for column in _columns_of(rows) if _letters_of(column)]
    return ["".join([column[at] for column in columns]) for at in range(len(rows))]


def _counts_in(column):
    """How often each letter stands in a column, by rising letters."""
    return [(letter, column.count(letter)) for letter in sorted(set(_letters_of(column)))]


def _pair_of(column, other, worths, each):
    """What a column over and a column under are worth together."""
    letters = _letters_of(column)
    others = _letters_of(other)
    worth = sum([worths[one + beside] for one in letters for beside in others])
    against_gaps = len(letters) * (len(other) - len(others)) + (len(column) - len(letters)) * len(others)
    return worth - each * against_gaps


def _prices_of(columns, each, rows_beside):
    """What each column costs alone, beside so many rows."""
    return [each * len(_letters_of(column)) * rows_beside for column in columns]


def _field_of_rows(over, under, scale):
    """The field of two lists of joined rows: its places are their columns."""
    columns = _columns_of(over)
    others = _columns_of(under)
    each = scale.each()
    # Each pair of letters is asked for once, as it may stand in many pairs of columns.
    worths = {one + other: scale.worth_of(one, other) for one in scale.letters() for other in scale.letters()}
    pairs = [[_pair_of(column, other, worths, each) for other in others] for column in columns]
    over_prices = _prices_of(columns, each, len(under))
    under_prices = _prices_of(others, each, len(over))
    return Field(pairs, over_prices, under_prices, opening=scale.opening() * len(over) * len(under))


class Joined:
    """One to eight gapped rows of one length, with a letter in each column."""

    def __init__(self, rows):
        refuse_wrong([_are_gapped(rows)])
        if any(len(row) != len(rows[0]) for row in rows):
            raise Unlike()
        for at, column in enumerate(_columns_of(rows)):
            if not _letters_of(column):
                raise Bare(at)
        self._rows = list(rows)

    def rows(self):
        """The gapped rows, in order."""
        return list(self._rows)

    def many(self):
        """How many rows there are."""
        return len(self._rows)

    def columns(self):
        """How many columns there are."""
        return len(self._rows[0])

    def counts(self):
        """For each column, how often each letter stands in it."""
        return [_counts_in(column) for column in _columns_of(self._rows)]

    def row_of(self, at):
        """The row at a place, without its gaps."""
        refuse_wrong([is_from_nought(at)])
        self._refuse_no_row(at)
        return _letters_of(self._rows[at])

    def between(self, at, to):
        """The path between the rows at two places, without the columns in which both have a gap."""
        refuse_wrong([is_from_nought(at), is_from_nought(to)])
        self._refuse_no_row(at)
        self._refuse_no_row(to)
        one, other = _without_bare_columns([self._rows[at], self._rows[to]])
        return path_between(one, other)

    def without(self, at):
        """The other rows joined, without the columns in which no letter is left."""
        refuse_wrong([is_from_nought(at)])
        self._refuse_no_row(at)
        if self.many() == 1:
            raise Alone()
        return Joined(_without_bare_columns(self._rows[:at] + self._rows[at + 1:]))

    def field_with(self, other, scale):
        """The field of these rows, over, and of others, under."""
        refuse_wrong([isinstance(other, Joined), isinstance(scale, Scale)])
        under = other.rows()
        refuse_strange(_letters_of("".join(self._rows + under)), scale)
        return _field_of_rows(self._rows, under, scale)

    def joined_with(self, other, scale):
        """These rows, over, joined with others, under, by the path of their field."""
        refuse_wrong([isinstance(other, Joined), isinstance(scale, Scale)])
        if self.many() + other.many() > MOST_ROWS:
            raise TooMany(MOST_ROWS)
        path = Bounds(self.field_with(other, scale)).path()
        if len(path) > MOST:
            raise TooLong(MOST)
        over = [spread(row, path, "u") for row in self._rows]
        return Joined(over + [spread(row, path, "o") for row in other.rows()])

    def _refuse_no_row(self, at):
        if at >= len(self._rows):
            raise NoRow(at)


def joined_all(rows, scale):
    """The first row by itself, then each further one joined, under, with what is joined already."""
    refuse_wrong([_are_rows(rows), isinstance(scale, Scale)])
    refuse_strange("".join(rows), scale)
    joined = Joined([rows[0]])
    for row in rows[1:]:
        joined = joined.joined_with(Joined([row]), scale)
    return joined
