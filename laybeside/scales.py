"""Scales: what pairs of letters are worth, and what gaps cost."""

from laybeside.errors import NoLetter, refuse_wrong
from laybeside.kinds import is_letter, is_list, is_price, is_row, is_worth

OPENING = 3
EACH = 1
MOST_LETTERS = 8


def _are_letters(thing):
    """Whether it is a text of one to eight small letters, no two alike."""
    return is_row(thing) and 1 <= len(thing) <= MOST_LETTERS and len(set(thing)) == len(thing)


def _are_worths(thing, many):
    """Whether it is a list of so many lists of so many worths."""
    return is_list(thing, many, many) and all(_is_line(line, many) for line in thing)


def _is_line(thing, many):
    return is_list(thing, many, many) and all(is_worth(worth) for worth in thing)


def refuse_strange(letters, scale):
    """Refuse with NoLetter the first of the letters that is not the scale's."""
    for letter in letters:
        if letter not in scale.letters():
            raise NoLetter(letter)


class Scale:
    """Letters, the worth of each two of them, and the two prices of a gap."""

    def __init__(self, letters, worths, *, opening=OPENING, each=EACH):
        # How many worths there must be is told by the letters alone, so these are looked at first.
        right = _are_letters(letters)
        fitting = right and _are_worths(worths, len(letters))
        refuse_wrong([right, fitting, is_price(opening), is_price(each)])
        self._letters = letters
        self._worths = [list(line) for line in worths]
        self._opening = opening
        self._each = each

    def letters(self):
        """The letters, in their order."""
        return self._letters

    def worths(self):
        """For each letter a new list with its worth with each letter."""
        return [list(line) for line in self._worths]

    def worth_of(self, one, other):
        """What one letter, of the over row, is worth with another one."""
        refuse_wrong([is_letter(one), is_letter(other)])
        refuse_strange(one + other, self)
        return self._worths[self._letters.index(one)][self._letters.index(other)]

    def opening(self):
        """The price for opening a gap."""
        return self._opening

    def each(self):
        """The price for each letter in a gap."""
        return self._each

    def knows(self, row):
        """Whether all letters of the row are the scale's own."""
        refuse_wrong([is_row(row)])
        return all(letter in self._letters for letter in row)

    def turned(self):
        """The scale in which one letter and another have changed places."""
        columns = [[line[at] for line in self._worths] for at in range(len(self._worths))]
        return Scale(self._letters, columns, opening=self._opening, each=self._each)
