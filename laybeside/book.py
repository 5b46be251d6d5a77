"""Books: joined rows that are kept by names, and deeds that may be undone and done again."""

from laybeside.bounds import Bounds
from laybeside.deeds import is_deed, read_deed, show_deed
from laybeside.errors import LayError, NoLog, NoName, NoText, NotOne, Nothing, There, TooMany, refuse_wrong
from laybeside.fields import MOST
from laybeside.joins import Joined
from laybeside.kinds import are_ends, is_from_nought, is_from_to, is_list, is_name
from laybeside.paths import WHOLE
from laybeside.scales import Scale, refuse_strange
from laybeside.sheets import row_put, row_taken, row_turned
from laybeside.stretches import Stretches
from laybeside.strips import FIRST, strip_way
from laybeside.ways import Ways

MOST_KEPT = 40
MOST_TRIED = 20
# At which places of each deed the names stand of which it asks.
ASKED = {"row": (), "put": (1,), "take": (1,), "turn": (1,), "join": (2, 3), "without": (2,), "drop": (1,)}
MAKING = ("row", "join", "without")
CHANGING = ("put", "take", "turn")


def _refuse_no_name(kept, names):
    """Refuse with NoName the first name that stands for nothing."""
    for name in names:
        if name not in kept:
            raise NoName(name)


def _refuse_by_names(kept, deed):
    """Refuse a deed for the names that stand, or don't, and for what they stand for."""
    word, name = deed[:2]
    _refuse_no_name(kept, [deed[at] for at in ASKED[word]])
    if word in MAKING and name in kept:
        raise There(name)
    if word in MAKING and len(kept) == MOST_KEPT:
        raise TooMany(MOST_KEPT)
    if word in CHANGING and kept[name].many() > 1:
        raise NotOne(name)


def _made_by(kept, deed, scale):
    """What stands for the name of a deed behind it."""
    match deed:
        case ("row", _, letters):
            refuse_strange(letters, scale)
            return Joined([letters])
        case ("join", _, one, other):
            return kept[one].joined_with(kept[other], scale)
        case ("without", _, of, at):
            return kept[of].without(at)
        case ("put", name, at, letters):
            return Joined([row_put(kept[name].row_of(0), at, letters, scale)])
        case ("take", name, at, many):
            return Joined([row_taken(kept[name].row_of(0), at, many)])
        case ("turn", name, at, letter):
            return Joined([row_turned(kept[name].row_of(0), at, letter, scale)])


def _kept_behind(kept, deed, scale):
    """What is kept behind a deed, in a dict of its own."""
    _refuse_by_names(kept, deed)
    behind = dict(kept)
    if deed[0] == "drop":
        del behind[deed[1]]
    else:
        behind[deed[1]] = _made_by(kept, deed, scale)
    return behind


def _field_in(kept, one, other, scale):
    """The field of what stands for two names."""
    _refuse_no_name(kept, [one, other])
    return kept[one].field_with(kept[other], scale)


def _laying_in(kept, one, other, scale, ends):
    """The worth and the path of what stands for two names."""
    bounds = Bounds(_field_in(kept, one, other, scale), ends=ends)
    return bounds.worth(), bounds.path()


class Book:
    """Joined rows by names, and the deeds that made them."""

    def __init__(self, scale):
        refuse_wrong([isinstance(scale, Scale)])
        self._scale = scale
        # The deeds that stand, then those that were undone since.
        self._deeds = []
        # What is kept ahead of each of these, then behind the last one: nothing of it is ever changed.
        self._kept = [{}]
        self._standing = 0

    def do(self, deed):
        """Do a deed; what was undone is forgotten."""
        refuse_wrong([is_deed(deed)])
        behind = _kept_behind(self._kept_now(), deed, self._scale)
        del self._deeds[self._standing:]
        del self._kept[self._standing + 1:]
        self._deeds.append(deed)
        self._kept.append(behind)
        self._standing += 1

    def back(self):
        """Undo the last deed that stands."""
        if self._standing == 0:
            raise Nothing()
        self._standing -= 1

    def again(self):
        """Do the deed that was undone last once more."""
        if self._standing == len(self._deeds):
            raise Nothing()
        self._standing += 1

    def tried(self, deeds, one, other, *, ends=WHOLE):
        """The laying of two names as it would be behind deeds; the book stays as it is."""
        are_deeds = is_list(deeds, 1, MOST_TRIED) and all(is_deed(deed) for deed in deeds)
        refuse_wrong([are_deeds, is_name(one), is_name(other), are_ends(ends)])
        kept = self._kept_now()
        for deed in deeds:
            kept = _kept_behind(kept, deed, self._scale)
        return _laying_in(kept, one, other, self._scale, ends)

    def names(self):
        """The names, in the order in which they were made."""
        return list(self._kept_now())

    def rows_of(self, name):
        """The rows of a name."""
        refuse_wrong([is_name(name)])
        _refuse_no_name(self._kept_now(), [name])
        return self._kept_now()[name].rows()

    def laying(self, one, other, *, ends=WHOLE):
        """The worth and the path of two names."""
        refuse_wrong([is_name(one), is_name(other), are_ends(ends)])
        return _laying_in(self._kept_now(), one, other, self._scale, ends)

    def many(self, one, other, *, ends=WHOLE):
        """How many paths of two names are worth as much."""
        refuse_wrong([is_name(one), is_name(other), are_ends(ends)])
        return Ways(self._field_of(one, other), ends=ends).many()

    def path_at(self, one, other, number, *, ends=WHOLE):
        """The path of two names with a number, of those that are worth as much."""
        refuse_wrong([is_name(one), is_name(other), is_from_nought(number), are_ends(ends)])
        return Ways(self._field_of(one, other), ends=ends).path_at(number)

    def banded(self, one, other, *, breadth=FIRST):
        """The way by strips of two names."""
        refuse_wrong([is_name(one), is_name(other), is_from_to(breadth, 0, MOST)])
        return strip_way(self._field_of(one, other), breadth=breadth)

    def stretch(self, one, other):
        """The stretch of two names that is worth the most."""
        refuse_wrong([is_name(one), is_name(other)])
        return Stretches(self._field_of(one, other)).told()

    def log(self):
        """The texts of the deeds that stand, each with a line feed behind it."""
        return "".join([show_deed(deed) + "\n" for deed in self._deeds[:self._standing]])

    def _kept_now(self):
        """What is kept now, by names."""
        return self._kept[self._standing]

    def _field_of(self, one, other):
        """The field of two names."""
        return _field_in(self._kept_now(), one, other, self._scale)


def _deed_of_row(row, at):
    """The deed that a row of a log writes."""
    try:
        return read_deed(row)
    except NoText:
        raise NoLog(at) from None


def come_up(scale, text):
    """The book in which just the deeds of a log were done."""
    refuse_wrong([isinstance(scale, Scale), isinstance(text, str)])
    *rows, left = text.split("\n")
    deeds = [_deed_of_row(row, at) for at, row in enumerate(rows)]
    if left:
        raise NoLog(len(rows))
    book = Book(scale)
    for at, deed in enumerate(deeds):
        try:
            book.do(deed)
        except LayError:
            raise NoLog(at) from None
    return book
