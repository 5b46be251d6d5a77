"""Deeds: what may be done in a book, as tuples and as texts."""

from laybeside.errors import NoText
from laybeside.kinds import is_filled_row, is_from_to, is_letter, is_name, is_row
from laybeside.texts import read_whole, refuse_no_text

# Of which kinds the parts of a deed are, behind its word.
PARTS = {
    "row": ("name", "row"),
    "put": ("name", "place", "letters"),
    "take": ("name", "place", "many"),
    "turn": ("name", "place", "letter"),
    "join": ("name", "name", "name"),
    "without": ("name", "name", "line"),
    "drop": ("name",),
}
# The least and the most of the kinds that are whole numbers.
NUMBERS = {"place": (0, 60), "many": (1, 40), "line": (0, 7)}
FIGURES = 2


def _is_part(kind, thing):
    """Whether it is of a kind of PARTS."""
    if kind in NUMBERS:
        least, most = NUMBERS[kind]
        return is_from_to(thing, least, most)
    if kind == "name":
        return is_name(thing)
    if kind == "row":
        return is_row(thing)
    return is_letter(thing) if kind == "letter" else is_filled_row(thing)


def _is_form(word, many):
    """Whether deeds of a word have so many parts behind it."""
    return word in PARTS and len(PARTS[word]) == many


def is_deed(thing):
    """Whether it is a deed."""
    if not isinstance(thing, tuple) or not thing or not isinstance(thing[0], str):
        return False
    word, *parts = thing
    return _is_form(word, len(parts)) and all(_is_part(kind, part) for kind, part in zip(PARTS[word], parts))


def show_deed(deed):
    """A deed by its words, with a blank between each two; - for the row without letters."""
    return " ".join([str(part) or "-" for part in deed])


def _read_part(kind, word):
    """The part of a kind that a word may write."""
    if kind in NUMBERS:
        return read_whole(word, FIGURES)
    return "" if kind == "row" and word == "-" else word


def read_deed(text):
    """The deed that a text writes."""
    refuse_no_text(text)
    word, *words = text.split(" ")
    if not _is_form(word, len(words)):
        raise NoText()
    parts = [_read_part(kind, part) for kind, part in zip(PARTS[word], words)]
    deed = (word, *parts)
    # A word without signs would not be written: the row without letters is -.
    if not is_deed(deed) or show_deed(deed) != text:
        raise NoText()
    return deed
