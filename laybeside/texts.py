"""Texts: how numbers, paths, layings, scales and joined rows are written, and read back."""

from laybeside.errors import LayError, NoText, Wrong
from laybeside.joins import Joined
from laybeside.kinds import STEPS, is_path, is_row
from laybeside.paths import gapped, path_between, runs_of
from laybeside.scales import Scale

# How many figures the greatest numbers have that a path, and a scale, are written with.
RUN_FIGURES = 3
SCALE_FIGURES = 7


def refuse_no_text(thing):
    """Refuse with NoText what is no text."""
    if not isinstance(thing, str):
        raise NoText()


def read_whole(word, figures):
    """The whole number of at most so many figures that a word writes."""
    bare = word.removeprefix("-")
    # The length goes first, as Python itself refuses to read very long numbers.
    if len(bare) > figures or not bare.isdecimal():
        raise NoText()
    number = int(word)
    # A nought ahead, or a - ahead of 0, would not be written.
    if str(number) != word:
        raise NoText()
    return number


def show_path(path):
    """A path by its runs, how many and the step, one behind another; - where it has no steps."""
    return "".join([f"{many}{step}" for step, many in runs_of(path)]) or "-"


def read_path(text):
    """The path that a text writes."""
    refuse_no_text(text)
    if text == "-":
        return ""
    path = ""
    figures = ""
    for sign in text:
        if sign in STEPS:
            path += sign * read_whole(figures, RUN_FIGURES)
            figures = ""
        else:
            figures += sign
    # Runs in two parts, and what stands behind the last step, would not be written.
    if not is_path(path) or show_path(path) != text:
        raise NoText()
    return path


def show_laying(over, under, path):
    """Two rows laid by a path, the over row first, with a line feed between."""
    return "\n".join(gapped(over, under, path))


def read_laying(text):
    """The over row, the under row and the path that a text writes."""
    refuse_no_text(text)
    lines = text.split("\n")
    if len(lines) != 2:
        raise NoText()
    try:
        path = path_between(lines[0], lines[1])
    except LayError:
        raise NoText() from None
    over, under = [line.replace("-", "") for line in lines]
    if not is_row(over) or not is_row(under):
        raise NoText()
    return over, under, path


def show_scale(scale):
    """A scale: its letters, the two prices and the worths, with a blank between each two."""
    numbers = [scale.opening(), scale.each()]
    for line in scale.worths():
        numbers += line
    return " ".join([scale.letters()] + [str(number) for number in numbers])


def read_scale(text):
    """The scale that a text writes."""
    refuse_no_text(text)
    letters, *words = text.split(" ")
    many = len(letters)
    if len(words) != 2 + many * many:
        raise NoText()
    opening, each, *worths = [read_whole(word, SCALE_FIGURES) for word in words]
    lines = [worths[at * many:(at + 1) * many] for at in range(many)]
    try:
        return Scale(letters, lines, opening=opening, each=each)
    except Wrong:
        raise NoText() from None


def show_joined(joined):
    """Joined rows, with a line feed between each two."""
    return "\n".join(joined.rows())


def read_joined(text):
    """The joined rows that a text writes."""
    refuse_no_text(text)
    try:
        return Joined(text.split("\n"))
    except LayError:
        raise NoText() from None
