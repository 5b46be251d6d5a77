"""Of whatever is handed in: of which kinds it is."""

SMALL = "abcdefghijklmnopqrstuvwxyz"
STEPS = "bou"
MOST_WORTH = 10 ** 6
MOST_GREAT = 10 ** 12
MOST_ROW = 40
MOST_NAME = 8
MOST_PATH = 120


def is_from_to(thing, least, most):
    """Whether it is a whole number from least to most."""
    return is_whole(thing) and least <= thing <= most


def _is_text_of(thing, signs, least, most):
    """Whether it is a text of least to most signs, each one of these."""
    # The length goes first, so that a very long text is not read through.
    if not isinstance(thing, str) or not least <= len(thing) <= most:
        return False
    return all(sign in signs for sign in thing)


def is_list(thing, least, most):
    """Whether it is a list of least to most things."""
    return isinstance(thing, list) and least <= len(thing) <= most


def is_whole(thing):
    """Whether it is an int that is no truth."""
    return isinstance(thing, int) and not isinstance(thing, bool)


def is_from_nought(thing):
    """Whether it is a whole number from 0 on."""
    return is_whole(thing) and thing >= 0


def is_worth(thing):
    """Whether it is a whole number from -10 ** 6 to 10 ** 6."""
    return is_from_to(thing, -MOST_WORTH, MOST_WORTH)


def is_price(thing):
    """Whether it is a whole number from 0 to 10 ** 6."""
    return is_from_to(thing, 0, MOST_WORTH)


def is_great_worth(thing):
    """Whether it is a whole number from -10 ** 12 to 10 ** 12."""
    return is_from_to(thing, -MOST_GREAT, MOST_GREAT)


def is_great_price(thing):
    """Whether it is a whole number from 0 to 10 ** 12."""
    return is_from_to(thing, 0, MOST_GREAT)


def is_letter(thing):
    """Whether it is a text of one small letter."""
    return _is_text_of(thing, SMALL, 1, 1)


def is_row(thing):
    """Whether it is a text of 0 to 40 small letters."""
    return _is_text_of(thing, SMALL, 0, MOST_ROW)


def is_filled_row(thing):
    """Whether it is a text of 1 to 40 small letters."""
    return _is_text_of(thing, SMALL, 1, MOST_ROW)


def is_name(thing):
    """Whether it is a text of 1 to 8 small letters."""
    return _is_text_of(thing, SMALL, 1, MOST_NAME)


def is_step(thing):
    """Whether it is one of the texts b, o, u."""
    return _is_text_of(thing, STEPS, 1, 1)


def is_path(thing):
    """Whether it is a text of 0 to 120 steps."""
    return _is_text_of(thing, STEPS, 0, MOST_PATH)


def is_gapped(thing):
    """Whether it is a text of 0 to 120 signs, each a small letter or -."""
    return _is_text_of(thing, SMALL + "-", 0, MOST_PATH)


def is_side(thing):
    """Whether it is one of the texts over and under."""
    return isinstance(thing, str) and thing in ("over", "under")


def are_ends(thing):
    """Whether it is a tuple of four truths."""
    if not isinstance(thing, tuple) or len(thing) != 4:
        return False
    return all(isinstance(end, bool) for end in thing)
