"""Desks: books that are told rows of text, and answer in text."""

from laybeside.book import Book
from laybeside.deeds import read_deed
from laybeside.errors import NoLine, NoText
from laybeside.joins import Joined
from laybeside.kinds import is_name
from laybeside.paths import FREE, WITHIN
from laybeside.texts import read_scale, read_whole, show_joined, show_path

# How many words stand behind the first one of each row that asks: names, and behind two names a number.
ASKING = {
    "names": 0, "rows": 1, "laying": 2, "within": 2, "free": 2, "many": 2, "path": 3, "strip": 2, "stretch": 2,
    "log": 0,
}
MOST_FIGURES = 60


def _is_number(word):
    """Whether a word writes a whole number from 0 on, of at most 60 figures."""
    try:
        return read_whole(word, MOST_FIGURES) >= 0
    except NoText:
        return False


def _refuse_words(word, words):
    """Refuse with NoLine what isn't as it must be behind the first word of a row that asks."""
    are_right = all(is_name(name) for name in words[:2]) and all(_is_number(number) for number in words[2:])
    if len(words) != ASKING[word] or not are_right:
        raise NoLine()


def _deed_of(row):
    """The deed that a row writes."""
    try:
        return read_deed(row)
    except NoText:
        raise NoLine() from None


def _show_laid(laid):
    """A worth and a path."""
    worth, path = laid
    return f"{worth} {show_path(path)}"


def _show_strip(way):
    """A way by strips."""
    worth, path, *numbers = way
    words = ["none" if number is None else str(number) for number in numbers]
    return " ".join([str(worth), show_path(path)] + words)


def _show_stretch(stretch):
    """A stretch."""
    at, to, path = stretch
    return f"{at} {to} {show_path(path)}"


class Desk:
    """A book that is told rows of text."""

    def __init__(self, text):
        self._book = Book(read_scale(text))

    def say(self, row):
        """Do what a row tells, or answer what it asks."""
        if not isinstance(row, str):
            raise NoLine()
        word, *words = row.split(" ")
        if word in ASKING:
            _refuse_words(word, words)
            return self._answer([word, *words])
        self._do(row)
        return "ok"

    def _do(self, row):
        if row == "back":
            self._book.back()
        elif row == "again":
            self._book.again()
        else:
            self._book.do(_deed_of(row))

    def _answer(self, words):
        """What the book tells of what is asked, in text."""
        match words:
            case ["names"]:
                return " ".join(self._book.names()) or "none"
            case ["log"]:
                return self._book.log()
            case ["rows", name]:
                return show_joined(Joined(self._book.rows_of(name)))
            case ["laying", one, other]:
                return _show_laid(self._book.laying(one, other))
            case ["within", one, other]:
                return _show_laid(self._book.laying(one, other, ends=WITHIN))
            case ["free", one, other]:
                return _show_laid(self._book.laying(one, other, ends=FREE))
            case ["many", one, other]:
                return str(self._book.many(one, other))
            case ["strip", one, other]:
                return _show_strip(self._book.banded(one, other))
            case ["stretch", one, other]:
                return _show_stretch(self._book.stretch(one, other))
            case ["path", one, other, number]:
                return show_path(self._book.path_at(one, other, int(number)))
