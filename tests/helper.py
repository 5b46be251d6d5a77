"""What several tests share."""

import functools
import itertools

from laybeside.errors import Wrong
from laybeside.fields import Field

SMALL = "abcdefghijklmnopqrstuvwxyz"
# The signs that texts which are handed in may have.
SIGNS = [chr(code) for code in range(32, 127) if code != 37] + ["\n"]


def knot():
    """A list that holds itself."""
    told = []
    told.append(told)
    return told


def strangers():
    """Things that are no texts, no ints and no tuples, made afresh."""
    return [
        None, [], {}, set(), b"", b"a", b"bou", b"over", object(), len, int, Exception("a"),
        ["a"], ["b", "o", "u"], ["over"], [0], [1], [True, False, True, False], [[1, 2], [3, 4]],
        {"a": 1}, {"b": 1, "o": 2}, {"over": 1, "under": 2}, {0: [1]}, {"a"}, {1, 2}, knot(), range(3),
    ]


def shape(thing):
    """What a thing holds, and in which very lists and dicts it holds it."""
    if isinstance(thing, dict):
        return id(thing), [shape(part) for pair in thing.items() for part in pair]
    if isinstance(thing, (list, tuple)):
        # What holds itself is not looked into a second time.
        return id(thing), [shape(part) for part in thing if part is not thing]
    return id(thing), sorted(thing, key=str) if isinstance(thing, set) else None


def refused(case, kind, call, *args, **named):
    """The refusal of a call: of just this class, and what was handed in stays as it was."""
    handed = [*args, *named.values()]
    ahead = shape(handed)
    with case.assertRaises(kind) as caught:
        call(*args, **named)
    case.assertIs(type(caught.exception), kind)
    case.assertEqual(shape(handed), ahead)
    return caught.exception


def bad_rows():
    """Things that are no rows."""
    return strangers() + [
        True, False, 0, 1, -1, (), ("a",), ("a", "b"), ["a", "b"], "A", "aB", "a b", " a", "a ", "a\n", "\na", "-",
        "a-b", "a1", "1", "`", "{", "a" * 41, "b" * 1000, "ab" * 20 + "a",
    ]


def bad_filled_rows():
    """Things that are no rows of one letter or more."""
    return bad_rows() + [""]


def bad_letters():
    """Things that are no letters."""
    return strangers() + [
        True, False, 0, 1, -1, (), ("a",), ["a"], "", "A", "aa", "ab", "a ", " a", "a\n", "\n", " ", "-", "0", "1", "`",
        "{", "over", "a" * 41,
    ]


def bad_sides():
    """Things that are no sides."""
    return strangers() + [
        True, False, 0, 1, -1, (), ("over",), ("over", "under"), "", "o", "u", "Over", "UNDER", "over ", " under",
        "over\n", "overunder", "ove", "row",
    ]


def bad_takes():
    """Things that are no whole numbers from 1 to 40."""
    return strangers() + [True, False, 0, -1, 41, 42, 60, 10 ** 300, -(10 ** 300), "", "1", (), (1,), [1]]


def bad_places():
    """Things that are no whole numbers from 0 on."""
    return strangers() + [True, False, -1, -2, -60, -(10 ** 300), "", "0", "1", (), (0,), (1,)]


def bad_great_prices():
    """Things that are no great prices."""
    return bad_places() + [10 ** 12 + 1, -(10 ** 12), 10 ** 300]


def bad_steps():
    """Things that are no steps."""
    return strangers() + [
        True, False, 0, 1, -1, (), ("b",), ["b"], "", "a", "B", "O", "U", "bb", "bo", "ou", "bou", "-", " ", "b ",
        "\n", "b\n", "out", "over", "0",
    ]


def bad_paths():
    """Things that are no paths."""
    return strangers() + [
        True, False, 0, 1, -1, (), ("b",), ("b", "o"), "a", "bBo", "B", "b o", " ", "b\n", "\nb", "-", "b-", "bxu",
        "abou", "boua", "b" * 121, "bou" * 41, "x" * 1000, "3b",
    ]


def bad_gapped():
    """Things that are no gapped rows."""
    return strangers() + [
        True, False, 0, 1, -1, (), ("a",), ("a", "-"), ["a", "-"], "A", "a b", " ", "a\n", "\na", "a_b", "--1", "1",
        "`", "{", "+", "a" * 121, "-" * 121, "a-" * 500,
    ]


def bad_ends():
    """Things that are no ends."""
    return strangers() + [
        True, False, 0, 1, "", "True", "over", (), (True,), (True, False, True), (False,) * 5, (0, 0, 0, 0),
        (1, 1, 1, 1), [False] * 4, [True] * 4, (False, False, False, 0), (1, False, False, False),
        (False, None, False, False), (False, False, "", False), ((False,) * 4,), ("b", "o", "u", "b"),
    ]


def no_objects():
    """Things that are no objects of the program's own classes."""
    return strangers() + [
        True, False, 0, 1, -1, "", "ab", "ab 3 1 5 -4 -4 5", (), (1, 2), ([[1]], [1], [1], 0), [[1]], [[[1]], [1], [1]],
    ]


def assert_wrong(case, call, right, wrong, names=()):
    """What isn't as told at any place is refused with the first such place, ahead of all else.

    right holds a thing for each place, and wrong for each place things that aren't as told there;
    the last places are handed in by these names.
    """
    by_place = len(right) - len(names)

    def assert_refused(things, at):
        named = dict(zip(names, things[by_place:]))
        for order in (named, dict(reversed(named.items()))):
            case.assertEqual(refused(case, Wrong, call, *things[:by_place], **order).at, at)

    for at, bad in enumerate(wrong):
        for number, thing in enumerate(bad):
            with case.subTest(at=at, number=number):
                assert_refused([*right[:at], thing, *right[at + 1:]], at)
    for which in itertools.product(*[(False, True) if bad else (False,) for bad in wrong]):
        for number in range(0, max(len(bad) for bad in wrong), 7) if sum(which) > 1 else ():
            triples = zip(right, wrong, which)
            things = [bad[number % len(bad)] if is_bad else good for good, bad, is_bad in triples]
            with case.subTest(which=which, number=number):
                assert_refused(things, which.index(True))


def row_of(seed, many, letters="abc"):
    """A row of so many of these letters, always the same one for a seed."""
    return "".join(letters[at] for at in drawn(seed, many, 0, len(letters) - 1))


def drawn(seed, many, least, most):
    """So many numbers from least to most, always the same ones for a seed."""
    told = []
    state = seed * 7919 + 17
    for _ in range(many):
        state = (state * 6364136223846793005 + 1442695040888963407) % 2 ** 64
        told.append(least + (state >> 33) % (most - least + 1))
    return told


def parts_of(seed, high, wide, least=-4, most=5, price=3, opening=3):
    """What a field is made of: pairs, over prices, under prices, and the opening price."""
    pairs = drawn(seed, high * wide, least, most)
    pairs = [pairs[at * wide:(at + 1) * wide] for at in range(high)]
    return pairs, drawn(seed + 1, high, 0, price), drawn(seed + 2, wide, 0, price), drawn(seed + 3, 1, 0, opening)[0]


def field_from(parts):
    """The field that is made of these parts."""
    pairs, over, under, opening = parts
    return Field(pairs, over, under, opening=opening)


def told_by(field):
    """All that a field tells of itself, place by place."""
    high, wide = field.high(), field.wide()
    pairs = [[field.pair(at, to) for to in range(wide)] for at in range(high)]
    over = [field.over_price(at) for at in range(high)]
    return pairs, over, [field.under_price(to) for to in range(wide)], field.opening()


@functools.lru_cache(None)
def all_paths(high, wide):
    """The texts of all paths through so many places, rising."""
    told = [] if high or wide else [""]
    if high and wide:
        told += ["b" + rest for rest in all_paths(high - 1, wide - 1)]
    if high:
        told += ["o" + rest for rest in all_paths(high - 1, wide)]
    if wide:
        told += ["u" + rest for rest in all_paths(high, wide - 1)]
    return told


def reckoned(parts, path, ends=(False,) * 4, at=0, to=0, ahead="b"):
    """What the steps of a path from a cell on are worth, by the words of point 18."""
    pairs, over, under, opening = parts
    over_head, over_tail, under_head, under_tail = ends
    worth = 0
    for step in path:
        if step == "b":
            worth += pairs[at][to]
            at, to = at + 1, to + 1
        elif step == "o":
            if not (to == 0 and over_head is True or to == len(under) and over_tail is True):
                worth -= over[at] + (opening if ahead != "o" else 0)
            at += 1
        else:
            if not (at == 0 and under_head is True or at == len(over) and under_tail is True):
                worth -= under[to] + (opening if ahead != "u" else 0)
            to += 1
        ahead = step
    return worth


def cells_in(parts):
    """All cells of the field that is made of these parts."""
    return list(itertools.product(range(len(parts[1]) + 1), range(len(parts[2]) + 1)))


def best_paths(parts, ends):
    """The paths that are worth the most, rising."""
    paths = all_paths(len(parts[1]), len(parts[2]))
    worths = [reckoned(parts, path, ends) for path in paths]
    most = max(worths)
    return [path for path, worth in zip(paths, worths) if worth == most]
