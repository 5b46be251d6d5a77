"""The refusals, each a class of its own under LayError."""


class LayError(ValueError):
    """What all refusals stand under."""


class Wrong(LayError):
    """What was handed in at a place, counted from 0, is not as told."""

    def __init__(self, at):
        LayError.__init__(self, "what was handed in is not as told")
        self.at = at


class NoLetter(LayError):
    """A letter is not one of the scale's."""

    def __init__(self, letter):
        LayError.__init__(self, "the scale has no such letter")
        self.letter = letter


class Unlike(LayError):
    """A path does not fit what it is laid upon, or two rows have not one length."""


class NotBest(LayError):
    """A path is not worth as much as the paths that are worth the most."""


class NoNumber(LayError):
    """There are not so many paths that one has this number."""

    def __init__(self, number):
        LayError.__init__(self, "no path has this number")
        self.number = number


class NoPlace(LayError):
    """There is no such place."""

    def __init__(self, at):
        LayError.__init__(self, "there is no such place")
        self.at = at


class TooLong(LayError):
    """A row would have more signs than the most that it may have."""

    def __init__(self, most):
        LayError.__init__(self, "the row would be too long")
        self.most = most


class TooMany(LayError):
    """There would be more than the most that there may be."""

    def __init__(self, most):
        LayError.__init__(self, "there would be too many")
        self.most = most


class Bare(LayError):
    """No letter stands in a column."""

    def __init__(self, at):
        LayError.__init__(self, "no letter stands in this column")
        self.at = at


class NoRow(LayError):
    """There is no row at a place."""

    def __init__(self, at):
        LayError.__init__(self, "there is no such row")
        self.at = at


class Alone(LayError):
    """A row is the only one, so it can't be left out."""


class NoName(LayError):
    """A name stands for nothing."""

    def __init__(self, name):
        LayError.__init__(self, "the name stands for nothing")
        self.name = name


class There(LayError):
    """A name that was to be made stands already."""

    def __init__(self, name):
        LayError.__init__(self, "the name stands already")
        self.name = name


class NotOne(LayError):
    """A name stands for several rows where one is asked for."""

    def __init__(self, name):
        LayError.__init__(self, "the name stands for several rows")
        self.name = name


class Nothing(LayError):
    """There is nothing to undo, or nothing to do again."""


class NoText(LayError):
    """What was handed in is not the text of what was to be read."""


class NoLog(LayError):
    """A row of a log is no deed's text, or its deed is refused."""

    def __init__(self, at):
        LayError.__init__(self, "this row of the log can't be done")
        self.at = at


class NoLine(LayError):
    """A desk was told what is no row that it knows."""


def refuse_wrong(as_told):
    """Refuse with Wrong the first place whose thing is not as told."""
    for at, right in enumerate(as_told):
        if not right:
            raise Wrong(at)


def refuse_no_place(at, many):
    """Refuse with NoPlace a place, counted from 0, where there are not so many."""
    if at >= many:
        raise NoPlace(at)
