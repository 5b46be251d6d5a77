"""Points 3, 4, 7, 37 and 38 of the document: all paths that are worth the most."""

import functools
import itertools
import time
import unittest

from laybeside.bounds import Bounds
from laybeside.errors import NoNumber, NotBest, Unlike
from laybeside.fields import Field, field_of
from laybeside.paths import FREE, WHOLE, WITHIN, worth_of_path
from laybeside.scales import Scale
from laybeside.ways import Ways
from tests.helper import (all_paths, assert_wrong, bad_ends, bad_paths, bad_places, best_paths, drawn, field_from,
                          no_objects, parts_of, refused, told_by)

ENDS = list(itertools.product((False, True), repeat=4))
GREAT = 10 ** 12
NO_FIELDS = no_objects() + [Field, Scale("a", [[1]]), Bounds(Field([], [], [])), Ways(Field([], [], []))]
# Fields in which many paths are worth as much stand among the others.
SMALL_FIELDS = [parts_of(seed, *size) for seed, size in enumerate(itertools.product(range(4), repeat=2))]
SMALL_FIELDS += [parts_of(seed, 3, 3, -1, 1, 1, 1) for seed in range(6)]
SMALL_FIELDS += [parts_of(seed, 4, 3, 0, 1, 0, 1) for seed in range(3)]
SMALL_FIELDS += [([[0] * 3] * 3, [0] * 3, [0] * 3, 0), ([[-9] * 3] * 2, [1] * 2, [1] * 3, 2),
                 ([[0] * 3] * 3, [0] * 3, [0] * 3, 1), parts_of(7, 3, 3, -GREAT, GREAT, GREAT, GREAT)]


def noughts(high, wide):
    """The field of so many places in which all numbers are nought."""
    return Field([[0] * wide for _ in range(high)], [0] * high, [0] * wide)


@functools.lru_cache(None)
def how_many(high, wide):
    """How many paths go through so many places."""
    if not high or not wide:
        return 1
    return how_many(high - 1, wide - 1) + how_many(high - 1, wide) + how_many(high, wide - 1)


def pairs_of(path):
    """The pairs that stand together in a path."""
    at = to = 0
    pairs = set()
    for step in path:
        if step == "b":
            pairs.add((at, to))
        at, to = at + (step != "u"), to + (step != "o")
    return pairs


def counted_forward(parts):
    """How many paths are worth the most, the ends being whole, counted from the first cell on."""
    pairs, over, under, opening = parts
    best = {(0, 0, "b"): (0, 1)}
    cells = sorted(itertools.product(range(len(over) + 1), range(len(under) + 1)), key=lambda cell: (sum(cell), cell))
    for at, to in cells:
        for step in "bou":
            came = at - (step != "u"), to - (step != "o")
            found = []
            for ahead in "bou":
                if (*came, ahead) in best:
                    worth, many = best[(*came, ahead)]
                    if step == "b":
                        worth += pairs[at - 1][to - 1]
                    else:
                        worth -= (over[at - 1] if step == "o" else under[to - 1]) + (opening if ahead != step else 0)
                    found.append((worth, many))
            if found:
                most = max(worth for worth, _ in found)
                best[at, to, step] = most, sum(many for worth, many in found if worth == most)
    last = [best[len(over), len(under), step] for step in "bou" if (len(over), len(under), step) in best]
    most = max(worth for worth, _ in last)
    return most, sum(many for worth, many in last if worth == most)


class AgainstAllPaths(unittest.TestCase):
    def test_numbers_and_paths_with_all_ends(self):
        several = 0
        for number, parts in enumerate(SMALL_FIELDS):
            field = field_from(parts)
            for ends in ENDS:
                with self.subTest(number=number, ends=ends):
                    ways = Ways(field, ends=ends)
                    best = best_paths(parts, ends)
                    self.assertEqual(ways.many(), len(best))
                    self.assertEqual([ways.path_at(at) for at in range(len(best))], best)
                    self.assertEqual([ways.number_of(path) for path in best], list(range(len(best))))
                    self.assertEqual(best[0], Bounds(field, ends=ends).path())
                    several += len(best) > 1
            self.assertEqual(told_by(field), parts)
        self.assertGreater(several, 100)

    def test_pairs_with_all_ends(self):
        apart = 0
        for number, parts in enumerate(SMALL_FIELDS):
            for ends in ENDS:
                with self.subTest(number=number, ends=ends):
                    ways = Ways(field_from(parts), ends=ends)
                    pairs = [pairs_of(path) for path in best_paths(parts, ends)]
                    self.assertEqual(ways.in_all(), sorted(set.intersection(*pairs)))
                    self.assertEqual(ways.in_some(), sorted(set.union(*pairs)))
                    apart += bool(ways.in_all()) and ways.in_all() != ways.in_some()
        self.assertGreater(apart, 20)

    def test_ends_left_out(self):
        for parts in SMALL_FIELDS:
            best = best_paths(parts, WHOLE)
            ways = Ways(field_from(parts))
            self.assertEqual([ways.path_at(at) for at in range(ways.many())], best)

    def test_paths_that_are_not_worth_as_much(self):
        seen = 0
        for number, parts in enumerate(SMALL_FIELDS):
            for ends in ENDS[::3]:
                ways = Ways(field_from(parts), ends=ends)
                best = best_paths(parts, ends)
                for path in all_paths(len(parts[1]), len(parts[2])):
                    if path not in best:
                        with self.subTest(number=number, ends=ends, path=path):
                            refused(self, NotBest, ways.number_of, path)
                            seen += 1
        self.assertGreater(seen, 100)

    def test_paths_that_do_not_fit(self):
        for parts in ([[9, 9], [9, 9]], [0, 0], [0, 0], 0), ([[-9] * 2] * 2, [1] * 2, [1] * 2, 2), ([], [], [0, 0], 0):
            field = field_from(parts)
            ways = Ways(field)
            high, wide = len(parts[1]), len(parts[2])
            for size in itertools.product(range(4), repeat=2):
                if size != (high, wide):
                    for path in all_paths(*size):
                        refused(self, Unlike, ways.number_of, path)
            for path in ("b" * 120, "o" * 120, "bou" * 40):
                refused(self, Unlike, ways.number_of, path)

    def test_numbers_at_and_beyond_the_last_one(self):
        for parts in SMALL_FIELDS:
            for ends in ENDS[::5]:
                ways = Ways(field_from(parts), ends=ends)
                many = len(best_paths(parts, ends))
                for number in (many, many + 1, 2 * many + 1, 10 ** 59, 10 ** 60 - 1, 10 ** 300):
                    self.assertEqual(refused(self, NoNumber, ways.path_at, number).number, number)
                self.assertEqual(ways.many(), many)

    def test_by_hand(self):
        scale = Scale("ab", [[5, -4], [-4, 5]], opening=0, each=1)
        ways = Ways(field_of("ab", "bab", scale))
        self.assertEqual((ways.many(), ways.path_at(0), ways.in_all()), (1, "ubb", [(0, 1), (1, 2)]))
        # Either of two like letters may stand alone.
        ways = Ways(field_of("aab", "ab", scale))
        self.assertEqual([ways.path_at(at) for at in range(ways.many())], ["bob", "obb"])
        self.assertEqual((ways.in_all(), ways.in_some()), ([(2, 1)], [(0, 0), (1, 0), (2, 1)]))
        self.assertEqual(ways.number_of("obb"), 1)
        # Of two steps that cross no pair, either may go first.
        ways = Ways(field_of("a", "b", Scale("ab", [[5, -9], [-9, 5]], opening=0, each=1)))
        self.assertEqual([ways.path_at(at) for at in range(ways.many())], ["ou", "uo"])
        self.assertEqual((ways.in_all(), ways.in_some()), ([], []))


class GreatFields(unittest.TestCase):
    def test_fields_without_places_on_a_side(self):
        for high, wide in [(0, 0), (0, 1), (1, 0), (0, 60), (60, 0)]:
            for parts in (parts_of(1, high, wide), told_by(noughts(high, wide))):
                for ends in ENDS:
                    ways = Ways(field_from(parts), ends=ends)
                    path = "o" * high + "u" * wide
                    self.assertEqual((ways.many(), ways.path_at(0), ways.number_of(path)), (1, path, 0))
                    self.assertEqual((ways.in_all(), ways.in_some()), ([], []))
                    self.assertEqual(refused(self, NoNumber, ways.path_at, 1).number, 1)

    def test_one_place_on_a_side(self):
        for high, wide in [(1, 1), (1, 60), (60, 1), (2, 60), (60, 2)]:
            ways = Ways(noughts(high, wide))
            paths = all_paths(high, wide)
            self.assertEqual(ways.many(), len(paths))
            for number in range(0, len(paths), 1 if len(paths) < 200 else 997):
                self.assertEqual(ways.path_at(number), paths[number])
                self.assertEqual(ways.number_of(paths[number]), number)
            self.assertEqual(ways.in_some(), list(itertools.product(range(high), range(wide))))
            self.assertEqual(ways.in_all(), [])

    def test_all_numbers_nought_in_good_time(self):
        began = time.process_time()
        for ends in (WHOLE, FREE):
            ways = Ways(noughts(60, 60), ends=ends)
            many = how_many(60, 60)
            self.assertEqual(len(str(many)), 45)
            self.assertEqual(ways.many(), many)
            self.assertEqual(ways.path_at(0), "b" * 60)
            self.assertEqual(ways.path_at(1), "b" * 59 + "ou")
            self.assertEqual(ways.path_at(2), "b" * 59 + "uo")
            self.assertEqual(ways.path_at(many - 1), "u" * 60 + "o" * 60)
            self.assertEqual(ways.path_at(many - 2), "u" * 59 + "ou" + "o" * 59)
            self.assertEqual(ways.number_of("u" * 60 + "o" * 60), many - 1)
            # Ahead of the first path that begins with o stand all that begin with b.
            self.assertEqual(ways.path_at(how_many(59, 59)), "o" + "b" * 59 + "u")
            self.assertEqual(ways.number_of("o" + "b" * 59 + "u"), how_many(59, 59))
            self.assertEqual(ways.path_at(how_many(59, 59) - 1), "b" + "u" * 59 + "o" * 59)
            for number in (many, many + 1, 10 ** 59, 10 ** 60 - 1):
                self.assertEqual(refused(self, NoNumber, ways.path_at, number).number, number)
            numbers = sorted(many * part // 10 ** 6 + at for at, part in enumerate(drawn(3, 40, 0, 10 ** 6 - 1)))
            paths = [ways.path_at(number) for number in numbers]
            self.assertEqual(paths, sorted(paths))
            self.assertEqual([ways.number_of(path) for path in paths], numbers)
            self.assertEqual(ways.in_some(), list(itertools.product(range(60), repeat=2)))
            self.assertEqual(ways.in_all(), [])
        self.assertLess(time.process_time() - began, 20)

    def test_steps_side_by_side(self):
        # Numbers that stand beside one another have paths that stand beside one another.
        ways = Ways(noughts(60, 60))
        for start in (0, 10 ** 6, 10 ** 20 + 7, how_many(60, 60) // 2, how_many(60, 60) - 60):
            paths = [ways.path_at(start + more) for more in range(60)]
            self.assertEqual(len(set(paths)), 60)
            self.assertEqual(paths, sorted(paths))

    def test_counted_another_way(self):
        for seed, (high, wide) in enumerate([(60, 60), (60, 60), (59, 60), (30, 60), (60, 17), (12, 9), (9, 12)]):
            for least, most, price, opening in [(0, 1, 0, 0), (-1, 1, 1, 0), (-2, 3, 2, 3), (-GREAT, GREAT, GREAT, 9)]:
                parts = parts_of(seed + 40, high, wide, least, most, price, opening)
                with self.subTest(high=high, wide=wide, least=least):
                    field = field_from(parts)
                    ways = Ways(field)
                    bounds = Bounds(field)
                    self.assertEqual((bounds.worth(), ways.many()), counted_forward(parts))
                    self.assertEqual(ways.path_at(0), bounds.path())
                    numbers = [ways.many() * part // 10 ** 6 for part in sorted(drawn(seed, 9, 0, 10 ** 6 - 1))]
                    paths = [ways.path_at(number) for number in numbers] + [ways.path_at(ways.many() - 1)]
                    self.assertEqual(paths, sorted(paths))
                    self.assertEqual([ways.number_of(path) for path in paths], [*numbers, ways.many() - 1])
                    for path in paths:
                        self.assertEqual(worth_of_path(field, path), bounds.worth())
                        self.assertLessEqual(set(ways.in_all()), pairs_of(path))
                        self.assertLessEqual(pairs_of(path), set(ways.in_some()))

    def test_pairs_in_a_field_of_its_own(self):
        # Each pair of one is worth much, all others cost much: one path alone is worth the most.
        pairs = [[9 if at == to else -9 for to in range(60)] for at in range(60)]
        ways = Ways(Field(pairs, [5] * 60, [5] * 60))
        diagonal = [(at, at) for at in range(60)]
        self.assertEqual((ways.many(), ways.in_all(), ways.in_some()), (1, diagonal, diagonal))
        # Where one corner is worth nothing, the paths part there and nowhere else.
        pairs[59][59] = -10
        ways = Ways(Field(pairs, [5] * 60, [5] * 60))
        self.assertEqual([ways.path_at(at)[58:] for at in range(ways.many())], ["bb", "bou", "buo"])
        self.assertEqual((ways.in_all(), ways.in_some()), (diagonal[:59], diagonal))


class TheForm(unittest.TestCase):
    def test_kinds_of_what_is_told(self):
        ways = Ways(noughts(3, 4))
        self.assertIs(type(ways.many()), int)
        self.assertIs(type(ways.path_at(5)), str)
        self.assertIs(type(ways.number_of("bbbu")), int)
        for pairs in (ways.in_all(), ways.in_some(), Ways(noughts(1, 1)).in_some()):
            self.assertIs(type(pairs), list)
            for pair in pairs:
                self.assertIs(type(pair), tuple)
                self.assertEqual([type(part) for part in pair], [int, int])


class WhoseListsTheyAre(unittest.TestCase):
    def test_told_lists_are_the_askers_own(self):
        ways = Ways(field_from(parts_of(1, 4, 4, 0, 1, 0, 0)))
        for ask in (ways.in_all, ways.in_some):
            ahead = list(ask())
            one, other = ask(), ask()
            self.assertIsNot(one, other)
            one.clear()
            other.append(3)
            self.assertEqual(ask(), ahead)
        self.assertIsNot(ways.in_all(), ways.in_some())

    def test_lists_of_which_the_field_was_made(self):
        pairs, over, under, opening = parts_of(1, 3, 3, 0, 1, 0, 0)
        best = best_paths((pairs, over, under, opening), WHOLE)
        ways = Ways(Field(pairs, over, under, opening=opening))
        pairs[0][0] = 99
        over.clear()
        under[1] = 7
        self.assertEqual([ways.path_at(at) for at in range(ways.many())], best)
        self.assertEqual([ways.number_of(path) for path in best], list(range(len(best))))

    def test_two_by_turns_asked_in_any_order(self):
        parts, others = parts_of(3, 4, 3, 0, 1, 0, 1), ([[0] * 2] * 3, [0] * 3, [0] * 2, 0)
        best, best_others = best_paths(parts, FREE), best_paths(others, WITHIN)
        for order in itertools.permutations(range(5)):
            one, other = Ways(field_from(parts), ends=FREE), Ways(field_from(others), ends=WITHIN)
            for which in order:
                if which == 0:
                    self.assertEqual((one.many(), other.many()), (len(best), len(best_others)))
                elif which == 1:
                    self.assertEqual((one.path_at(len(best) - 1), other.path_at(1)), (best[-1], best_others[1]))
                elif which == 2:
                    self.assertEqual((one.number_of(best[-1]), other.number_of(best_others[2])), (len(best) - 1, 2))
                elif which == 3:
                    self.assertEqual(one.in_all(), sorted(set.intersection(*map(pairs_of, best))))
                    refused(self, NoNumber, other.path_at, len(best_others))
                else:
                    self.assertEqual(other.in_some(), sorted(set.union(*map(pairs_of, best_others))))
                    refused(self, Unlike, one.number_of, "")


class WhatIsNotAsTold(unittest.TestCase):
    def test_what_ways_are_made_of(self):
        field = field_from(parts_of(1, 2, 4))
        assert_wrong(self, Ways, [field, FREE], [NO_FIELDS, bad_ends()], ["ends"])
        assert_wrong(self, Ways, [field], [NO_FIELDS])
        self.assertEqual(told_by(field), parts_of(1, 2, 4))

    def test_ends_are_handed_in_by_name_alone(self):
        with self.assertRaises(TypeError):
            Ways(Field([], [], []), WHOLE)

    def test_a_number_and_a_path(self):
        for parts in (parts_of(1, 2, 4), ([], [], [], 0)):
            ways = Ways(field_from(parts))
            best = best_paths(parts, WHOLE)
            assert_wrong(self, ways.path_at, [0], [bad_places()])
            assert_wrong(self, ways.number_of, [best[0]], [bad_paths()])
            self.assertEqual([ways.path_at(at) for at in range(ways.many())], best)


if __name__ == "__main__":
    unittest.main()
