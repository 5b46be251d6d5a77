"""What several tests share."""

import functools
import itertools

from laybeside.bounds import Bounds
from laybeside.errors import Alone, NoLetter, NoName, NoPlace, NoRow, NotOne, There, TooLong, TooMany, Wrong
from laybeside.fields import Field

SMALL = "abcdefghijklmnopqrstuvwxyz"
# The signs that texts which are handed in may have.
SIGNS = [chr(code) for code in range(32, 127) if code != 37] + ["\n"]


def knot():
    """A list that holds itself."""
    told = []
    told.append(told)
    return told


def strangers():
    """Things that are no texts, no ints and no tuples, made afresh."""
    return [
        None, [], {}, set(), b"", b"a", b"bou", b"over", object(), len, int, Exception("a"),
        ["a"], ["b", "o", "u"], ["over"], [0], [1], [True, False, True, False], [[1, 2], [3, 4]],
        {"a": 1}, {"b": 1, "o": 2}, {"over": 1, "under": 2}, {0: [1]}, {"a"}, {1, 2}, knot(), range(3),
    ]


def shape(thing):
    """What a thing holds, and in which very lists and dicts it holds it."""
    if isinstance(thing, dict):
        return id(thing), [shape(part) for pair in thing.items() for part in pair]
    if isinstance(thing, (list, tuple)):
        # What holds itself is not looked into a second time.
        return id(thing), [shape(part) for part in thing if part is not thing]
    return id(thing), sorted(thing, key=str) if isinstance(thing, set) else None


def refused(case, kind, call, *args, **named):
    """The refusal of a call: of just this class, and what was handed in stays as it was."""
    handed = [*args, *named.values()]
    ahead = shape(handed)
    with case.assertRaises(kind) as caught:
        call(*args, **named)
    case.assertIs(type(caught.exception), kind)
    case.assertEqual(shape(handed), ahead)
    return caught.exception


def bad_rows():
    """Things that are no rows."""
    return strangers() + [
        True, False, 0, 1, -1, (), ("a",), ("a", "b"), ["a", "b"], "A", "aB", "a b", " a", "a ", "a\n", "\na", "-",
        "a-b", "a1", "1", "`", "{", "a" * 41, "b" * 1000, "ab" * 20 + "a",
    ]


def bad_filled_rows():
    """Things that are no rows of one letter or more."""
    return bad_rows() + [""]


def bad_letters():
    """Things that are no letters."""
    return strangers() + [
        True, False, 0, 1, -1, (), ("a",), ["a"], "", "A", "aa", "ab", "a ", " a", "a\n", "\n", " ", "-", "0", "1", "`",
        "{", "over", "a" * 41,
    ]


def bad_sides():
    """Things that are no sides."""
    return strangers() + [
        True, False, 0, 1, -1, (), ("over",), ("over", "under"), "", "o", "u", "Over", "UNDER", "over ", " under",
        "over\n", "overunder", "ove", "row",
    ]


def bad_takes():
    """Things that are no whole numbers from 1 to 40."""
    return strangers() + [True, False, 0, -1, 41, 42, 60, 10 ** 300, -(10 ** 300), "", "1", (), (1,), [1]]


def bad_names():
    """Things that are no names."""
    return strangers() + [
        True, False, 0, 1, -1, (), ("a",), ["a", "b"], "", "A", "aB", "a b", " a", "a ", "a\n", "\n", "-", "a-", "a1",
        "1", "`", "{", "a" * 9, "overunder", "a" * 1000,
    ]


def no_texts():
    """Things that are no texts."""
    return strangers() + [True, False, 0, 1, -1, 12, 10 ** 300, (), ("a",), ("3b",), ("row", "a", "ab"), b"3b",
                          ["names"]]


def bad_places():
    """Things that are no whole numbers from 0 on."""
    return strangers() + [True, False, -1, -2, -60, -(10 ** 300), "", "0", "1", (), (0,), (1,)]


def bad_great_prices():
    """Things that are no great prices."""
    return bad_places() + [10 ** 12 + 1, -(10 ** 12), 10 ** 300]


def bad_steps():
    """Things that are no steps."""
    return strangers() + [
        True, False, 0, 1, -1, (), ("b",), ["b"], "", "a", "B", "O", "U", "bb", "bo", "ou", "bou", "-", " ", "b ",
        "\n", "b\n", "out", "over", "0",
    ]


def bad_paths():
    """Things that are no paths."""
    return strangers() + [
        True, False, 0, 1, -1, (), ("b",), ("b", "o"), "a", "bBo", "B", "b o", " ", "b\n", "\nb", "-", "b-", "bxu",
        "abou", "boua", "b" * 121, "bou" * 41, "x" * 1000, "3b",
    ]


def bad_gapped():
    """Things that are no gapped rows."""
    return strangers() + [
        True, False, 0, 1, -1, (), ("a",), ("a", "-"), ["a", "-"], "A", "a b", " ", "a\n", "\na", "a_b", "--1", "1",
        "`", "{", "+", "a" * 121, "-" * 121, "a-" * 500,
    ]


def bad_ends():
    """Things that are no ends."""
    return strangers() + [
        True, False, 0, 1, "", "True", "over", (), (True,), (True, False, True), (False,) * 5, (0, 0, 0, 0),
        (1, 1, 1, 1), [False] * 4, [True] * 4, (False, False, False, 0), (1, False, False, False),
        (False, None, False, False), (False, False, "", False), ((False,) * 4,), ("b", "o", "u", "b"),
    ]


def no_objects():
    """Things that are no objects of the program's own classes."""
    return strangers() + [
        True, False, 0, 1, -1, "", "ab", "ab 3 1 5 -4 -4 5", (), (1, 2), ([[1]], [1], [1], 0), [[1]], [[[1]], [1], [1]],
    ]


def assert_wrong(case, call, right, wrong, names=()):
    """What isn't as told at any place is refused with the first such place, ahead of all else.

    right holds a thing for each place, and wrong for each place things that aren't as told there;
    the last places are handed in by these names.
    """
    by_place = len(right) - len(names)

    def assert_refused(things, at):
        named = dict(zip(names, things[by_place:]))
        for order in (named, dict(reversed(named.items()))):
            case.assertEqual(refused(case, Wrong, call, *things[:by_place], **order).at, at)

    for at, bad in enumerate(wrong):
        for number, thing in enumerate(bad):
            with case.subTest(at=at, number=number):
                assert_refused([*right[:at], thing, *right[at + 1:]], at)
    for which in itertools.product(*[(False, True) if bad else (False,) for bad in wrong]):
        for number in range(0, max(len(bad) for bad in wrong), 7) if sum(which) > 1 else ():
            triples = zip(right, wrong, which)
            things = [bad[number % len(bad)] if is_bad else good for good, bad, is_bad in triples]
            with case.subTest(which=which, number=number):
                assert_refused(things, which.index(True))


def row_of(seed, many, letters="abc"):
    """A row of so many of these letters, always the same one for a seed."""
    return "".join(letters[at] for at in drawn(seed, many, 0, len(letters) - 1))


def drawn(seed, many, least, most):
    """So many numbers from least to most, always the same ones for a seed."""
    told = []
    state = seed * 7919 + 17
    for _ in range(many):
        state = (state * 6364136223846793005 + 1442695040888963407) % 2 ** 64
        told.append(least + (state >> 33) % (most - least + 1))
    return told


def parts_of(seed, high, wide, least=-4, most=5, price=3, opening=3):
    """What a field is made of: pairs, over prices, under prices, and the opening price."""
    pairs = drawn(seed, high * wide, least, most)
    pairs = [pairs[at * wide:(at + 1) * wide] for at in range(high)]
    return pairs, drawn(seed + 1, high, 0, price), drawn(seed + 2, wide, 0, price), drawn(seed + 3, 1, 0, opening)[0]


def field_from(parts):
    """The field that is made of these parts."""
    pairs, over, under, opening = parts
    return Field(pairs, over, under, opening=opening)


def told_by(field):
    """All that a field tells of itself, place by place."""
    high, wide = field.high(), field.wide()
    pairs = [[field.pair(at, to) for to in range(wide)] for at in range(high)]
    over = [field.over_price(at) for at in range(high)]
    return pairs, over, [field.under_price(to) for to in range(wide)], field.opening()


@functools.lru_cache(None)
def all_paths(high, wide):
    """The texts of all paths through so many places, rising."""
    told = [] if high or wide else [""]
    if high and wide:
        told += ["b" + rest for rest in all_paths(high - 1, wide - 1)]
    if high:
        told += ["o" + rest for rest in all_paths(high - 1, wide)]
    if wide:
        told += ["u" + rest for rest in all_paths(high, wide - 1)]
    return told


def reckoned(parts, path, ends=(False,) * 4, at=0, to=0, ahead="b"):
    """What the steps of a path from a cell on are worth, by the words of point 18."""
    pairs, over, under, opening = parts
    over_head, over_tail, under_head, under_tail = ends
    worth = 0
    for step in path:
        if step == "b":
            worth += pairs[at][to]
            at, to = at + 1, to + 1
        elif step == "o":
            if not (to == 0 and over_head is True or to == len(under) and over_tail is True):
                worth -= over[at] + (opening if ahead != "o" else 0)
            at += 1
        else:
            if not (at == 0 and under_head is True or at == len(over) and under_tail is True):
                worth -= under[to] + (opening if ahead != "u" else 0)
            to += 1
        ahead = step
    return worth


def cells_in(parts):
    """All cells of the field that is made of these parts."""
    return list(itertools.product(range(len(parts[1]) + 1), range(len(parts[2]) + 1)))


def best_paths(parts, ends):
    """The paths that are worth the most, rising."""
    paths = all_paths(len(parts[1]), len(parts[2]))
    worths = [reckoned(parts, path, ends) for path in paths]
    most = max(worths)
    return [path for path, worth in zip(paths, worths) if worth == most]


def without_bare(rows):
    """The rows without the columns in which no letter stands."""
    kept = [signs for signs in zip(*rows) if any(sign != "-" for sign in signs)]
    return ["".join(signs) for signs in zip(*kept)] if kept else [""] * len(rows)


def parts_by_the_words(over, under, scale):
    """The parts of the field of two lists of gapped rows, by the words of point 44."""
    columns, others = list(zip(*over)), list(zip(*under))
    each = scale.each()

    def letters(column):
        return sum(1 for sign in column if sign != "-")

    def gaps(column):
        return sum(1 for sign in column if sign == "-")

    def pair(column, other):
        worth = 0
        for one in column:
            for beside in other:
                if one != "-" and beside != "-":
                    worth += scale.worth_of(one, beside)
        return worth - each * (letters(column) * gaps(other) + gaps(column) * letters(other))

    return ([[pair(column, other) for other in others] for column in columns],
            [each * letters(column) * len(under) for column in columns],
            [each * letters(other) * len(over) for other in others],
            scale.opening() * len(over) * len(under))


def laid(over, under, path):
    """The columns of two lists of gapped rows laid by a path, as rows."""
    told = [""] * (len(over) + len(under))
    at = to = 0
    for step in path:
        column = [row[at] for row in over] if step != "u" else ["-"] * len(over)
        column += [row[to] for row in under] if step != "o" else ["-"] * len(under)
        told = [row + sign for row, sign in zip(told, column)]
        at, to = at + (step != "u"), to + (step != "o")
    return told


class PlainBook:
    """A book by the words of points 49 to 51, with a copy of all that is kept behind each deed."""

    def __init__(self, scale):
        self.scale = scale
        self.states = [[]]
        self.deeds = []
        self.undone = []

    def kept(self):
        """Tuples of a name and its rows, in order."""
        return self.states[-1]

    def log(self):
        """The log, by the words of points 48 and 54."""
        return "".join(" ".join(str(part) if part != "" else "-" for part in deed) + "\n" for deed in self.deeds)

    def due(self, deed):
        """The refusal that is due for a deed, and what it keeps, in a tuple; None where there is none."""
        word, name = deed[:2]
        rows_of = dict(self.kept())
        asked = {"row": [], "join": deed[2:4], "without": deed[2:3]}.get(word, [name])
        missing = [one for one in asked if one not in rows_of]
        if missing:
            return NoName, missing[0]
        if word in ("row", "join", "without"):
            if name in rows_of:
                return There, name
            if len(rows_of) >= 40:
                return TooMany, 40
        if word in ("put", "take", "turn"):
            if len(rows_of[name]) != 1:
                return NotOne, name
            return self.due_of_letters(deed, rows_of[name][0])
        if word == "row":
            return self.strange(deed[2])
        if word == "join":
            return self.due_of_join(rows_of[deed[2]], rows_of[deed[3]])
        if word == "without":
            if deed[3] >= len(rows_of[deed[2]]):
                return NoRow, deed[3]
            if len(rows_of[deed[2]]) == 1:
                return Alone,
        return None

    def strange(self, letters):
        strange = [letter for letter in letters if letter not in self.scale.letters()]
        return (NoLetter, strange[0]) if strange else None

    def due_of_letters(self, deed, row):
        word, _, at, more = deed
        if at > len(row) or (word == "turn" and at == len(row)) or (word == "take" and at + more > len(row)):
            return NoPlace, at
        if word == "put" and len(row) + len(more) > 40:
            return TooLong, 40
        return self.strange(more) if word != "take" else None

    def path_of_join(self, over, under):
        """The path by which rows are joined."""
        return Bounds(field_from(parts_by_the_words(over, under, self.scale))).path()

    def due_of_join(self, over, under):
        if len(over) + len(under) > 8:
            return TooMany, 8
        return (TooLong, 60) if len(self.path_of_join(over, under)) > 60 else None

    def made(self, deed):
        """The rows that stand for the name of a deed behind it."""
        word = deed[0]
        rows_of = dict(self.kept())
        if word == "row":
            return [deed[2]]
        if word == "join":
            over, under = rows_of[deed[2]], rows_of[deed[3]]
            return laid(over, under, self.path_of_join(over, under))
        if word == "without":
            return without_bare([row for at, row in enumerate(rows_of[deed[2]]) if at != deed[3]])
        letters = list(rows_of[deed[1]][0])
        at, more = deed[2:]
        letters[at:at + {"put": 0, "take": more, "turn": 1}[word]] = list(more) if word != "take" else []
        return ["".join(letters)]

    def do(self, deed):
        """Do a deed that is not refused."""
        word, name = deed[:2]
        kept = list(self.kept())
        if word == "drop":
            kept = [pair for pair in kept if pair[0] != name]
        elif word in ("put", "take", "turn"):
            kept = [(one, self.made(deed) if one == name else rows) for one, rows in kept]
        else:
            kept.append((name, self.made(deed)))
        self.states.append(kept)
        self.deeds.append(deed)
        self.undone = []

    def back(self):
        self.undone.append((self.states.pop(), self.deeds.pop()))

    def again(self):
        state, deed = self.undone.pop()
        self.states.append(state)
        self.deeds.append(deed)


def deeds_for(plain, seed, many, names="abcdefghijklmnopqrst", letters="ababababababax"):
    """Deeds for a book as it stands when each is asked for, some of which are refused; always the same for a seed."""
    numbers = iter(drawn(seed, 13 * many, 0, 10 ** 6))

    def one_of(things):
        # Now and then any name at all.
        things = names if next(numbers) % 8 == 0 else things or names
        return things[next(numbers) % len(things)]

    for _ in range(many):
        kept = dict(plain.kept())
        new = one_of([name for name in names if name not in kept])
        one, other = one_of(list(kept)), one_of(list(kept))
        changed = one_of([name for name in kept if len(kept[name]) == 1])
        word = ("row", "row", "put", "put", "take", "turn", "join", "without", "drop", "drop")[next(numbers) % 10]
        row = row_of(next(numbers), next(numbers) % 6, letters)
        at, number = next(numbers) % 3, next(numbers)
        yield {
            "row": ("row", new, row), "put": ("put", changed, at, row or "a"),
            "take": ("take", changed, at, 1 + number % 2), "turn": ("turn", changed, at, (row or "b")[0]),
            "join": ("join", new, one, other), "without": ("without", new, one, number % 2), "drop": ("drop", one),
        }[word]
