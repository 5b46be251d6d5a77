"""What several tests share."""

SMALL = "abcdefghijklmnopqrstuvwxyz"
# The signs that texts which are handed in may have.
SIGNS = [chr(code) for code in range(32, 127) if code != 37] + ["\n"]


def knot():
    """A list that holds itself."""
    told = []
    told.append(told)
    return told


def strangers():
    """Things that are no texts, no ints and no tuples, made afresh."""
    return [
        None, [], {}, set(), b"", b"a", b"bou", b"over", object(), len, int, Exception("a"),
        ["a"], ["b", "o", "u"], ["over"], [0], [1], [True, False, True, False], [[1, 2], [3, 4]],
        {"a": 1}, {"b": 1, "o": 2}, {"over": 1, "under": 2}, {0: [1]}, {"a"}, {1, 2}, knot(), range(3),
    ]


def shape(thing):
    """What a thing holds, and in which very lists and dicts it holds it."""
    if isinstance(thing, dict):
        return id(thing), [shape(part) for pair in thing.items() for part in pair]
    if isinstance(thing, (list, tuple)):
        # What holds itself is not looked into a second time.
        return id(thing), [shape(part) for part in thing if part is not thing]
    return id(thing), sorted(thing, key=str) if isinstance(thing, set) else None


def refused(case, kind, call, *args, **named):
    """The refusal of a call: of just this class, and what was handed in stays as it was."""
    handed = [*args, *named.values()]
    ahead = shape(handed)
    with case.assertRaises(kind) as caught:
        call(*args, **named)
    case.assertIs(type(caught.exception), kind)
    case.assertEqual(shape(handed), ahead)
    return caught.exception
