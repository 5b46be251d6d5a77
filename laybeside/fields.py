"""Fields: what each pair of places, over and under, is worth, and what places cost alone."""

from laybeside.errors import refuse_no_place, refuse_wrong
from laybeside.kinds import is_from_nought, is_great_price, is_great_worth, is_list, is_row
from laybeside.scales import Scale, refuse_strange

MOST = 60


def _are_pairs(thing):
    """Whether it is a list of 0 to 60 lists, all of one length of 0 to 60, of great worths."""
    if not is_list(thing, 0, MOST) or not all(is_list(line, 0, MOST) for line in thing):
        return False
    return all(len(line) == len(thing[0]) and _are_great_worths(line) for line in thing)


def _are_great_worths(things):
    return all(is_great_worth(thing) for thing in things)


def _are_prices(thing, least, most):
    """Whether it is a list of least to most great prices."""
    return is_list(thing, least, most) and all(is_great_price(price) for price in thing)


def _are_as_told(pairs, over, under, opening):
    """Of each thing that a field is made of, in order, whether it is as told."""
    # How many prices there must be is told by the pairs alone, so these are looked at first.
    if not _are_pairs(pairs):
        return [False]
    least, most = (len(pairs[0]), len(pairs[0])) if pairs else (0, MOST)
    over_right = _are_prices(over, len(pairs), len(pairs))
    return [True, over_right, _are_prices(under, least, most), is_great_price(opening)]


class Field:
    """Places over and under: what each pair is worth, and what each place costs alone."""

    def __init__(self, pairs, over, under, *, opening=0):
        refuse_wrong(_are_as_told(pairs, over, under, opening))
        # Tuples, as they may be told to other modules without being copied each time.
        self._pairs = tuple([tuple(line) for line in pairs])
        self._over = tuple(over)
        self._under = tuple(under)
        self._opening = opening

    def high(self):
        """How many places over there are."""
        return len(self._over)

    def wide(self):
        """How many places under there are."""
        return len(self._under)

    def pair(self, at, to):
        """What a place over and a place under are worth together."""
        refuse_wrong([is_from_nought(at), is_from_nought(to)])
        refuse_no_place(at, len(self._over))
        refuse_no_place(to, len(self._under))
        return self._pairs[at][to]

    def over_price(self, at):
        """What a place over costs alone."""
        refuse_wrong([is_from_nought(at)])
        refuse_no_place(at, len(self._over))
        return self._over[at]

    def under_price(self, to):
        """What a place under costs alone."""
        refuse_wrong([is_from_nought(to)])
        refuse_no_place(to, len(self._under))
        return self._under[to]

    def opening(self):
        """The price for opening a gap."""
        return self._opening

    def pairs(self):
        """What all pairs are worth: for each place over a tuple, in a tuple."""
        return self._pairs

    def over_prices(self):
        """What the places over cost alone, in a tuple."""
        return self._over

    def under_prices(self):
        """What the places under cost alone, in a tuple."""
        return self._under

    def turned(self):
        """The field with the places over as places under and the other way about."""
        columns = [[line[to] for line in self._pairs] for to in range(len(self._under))]
        return Field(columns, list(self._under), list(self._over), opening=self._opening)


def field_of(over, under, scale):
    """The field of two rows and a scale: its places are the letters of the rows."""
    refuse_wrong([is_row(over), is_row(under), isinstance(scale, Scale)])
    refuse_strange(over + under, scale)
    pairs = [[scale.worth_of(one, other) for other in under] for one in over]
    over_prices = [scale.each()] * len(over)
    under_prices = [scale.each()] * len(under)
    return Field(pairs, over_prices, under_prices, opening=scale.opening())
