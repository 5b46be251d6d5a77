"""Points 3, 4, 6, 31 and 32 of the document: the way by cuts."""

import itertools
import unittest

from laybeside.bounds import Bounds
from laybeside.cuts import cut_way
from laybeside.fields import Field, field_of
from laybeside.paths import FREE, WHOLE, WITHIN
from laybeside.scales import Scale
from tests.helper import (assert_wrong, bad_ends, best_paths, field_from, no_objects, parts_of, reckoned, told_by)

ENDS = list(itertools.product((False, True), repeat=4))
GREAT = 10 ** 12
NO_FIELDS = no_objects() + [Field, Scale("a", [[1]]), Bounds(Field([], [], []))]
SMALL_FIELDS = [parts_of(seed, *size) for seed, size in enumerate(itertools.product(range(5), range(4)))]
SMALL_FIELDS += [parts_of(seed, 4, 4, -1, 1, 1, 1) for seed in range(4)]
SMALL_FIELDS += [([[0] * 3] * 4, [0] * 4, [0] * 3, 0), ([[-9] * 3] * 4, [1] * 4, [1] * 3, 2)]


def halvings(top, behind):
    """The lines that are halved, (top, middle, behind), in order."""
    if behind - top < 2:
        return []
    middle = (top + behind) // 2
    return [(top, middle, behind)] + halvings(top, middle) + halvings(middle, behind)


def cuts_of(path, high):
    """The cuts of a path, read off its cells."""
    first = {}
    at = to = 0
    for step in path:
        line = at
        at, to = at + (step != "u"), to + (step != "o")
        if at > line:
            first[at] = to, step
    return [(top, middle, behind, *first[middle]) for top, middle, behind in halvings(0, high)]


class TheWayByCuts(unittest.TestCase):
    def test_small_fields_by_all_paths_one_by_one(self):
        for number, parts in enumerate(SMALL_FIELDS):
            for ends in ENDS:
                with self.subTest(number=number, ends=ends):
                    path = best_paths(parts, ends)[0]
                    expected = reckoned(parts, path, ends), path, cuts_of(path, len(parts[1]))
                    self.assertEqual(cut_way(field_from(parts), ends=ends), expected)

    def test_fields_of_all_sizes(self):
        sizes = [(0, 0), (0, 60), (1, 60), (2, 60), (3, 60), (60, 0), (60, 1), (60, 60), (59, 60), (7, 9), (16, 5),
                 (17, 5), (15, 30), (33, 31)]
        for seed, (high, wide) in enumerate(sizes):
            for parts in (parts_of(seed, high, wide, -3, 4, 2, 2), parts_of(seed, high, wide, -GREAT, GREAT, GREAT)):
                field = field_from(parts)
                for ends in ENDS if high < 20 else (WHOLE, WITHIN, FREE, (True, False, False, True)):
                    with self.subTest(high=high, wide=wide, ends=ends):
                        bounds = Bounds(field, ends=ends)
                        path = bounds.path()
                        told = cut_way(field, ends=ends)
                        self.assertEqual(told, (bounds.worth(), path, cuts_of(path, high)))
                        self.assertEqual(len(told[2]), max(0, high - 1))
                self.assertEqual(told_by(field), parts)

    def test_ends_left_out(self):
        for parts in SMALL_FIELDS:
            field = field_from(parts)
            self.assertEqual(cut_way(field), cut_way(field, ends=WHOLE))

    def test_by_hand(self):
        scale = Scale("abc", [[5, -4, -4], [-4, 5, -4], [-4, -4, 5]], opening=2, each=1)
        self.assertEqual(cut_way(field_of("abcab", "acb", scale)),
                         (9, "bobob", [(0, 2, 5, 1, "o"), (0, 1, 2, 1, "b"), (2, 3, 5, 2, "b"), (3, 4, 5, 2, "o")]))
        self.assertEqual(cut_way(field_of("bc", "aabcaa", scale), ends=WITHIN), (10, "uubbuu", [(0, 1, 2, 3, "b")]))
        self.assertEqual(cut_way(field_of("abc", "", scale)), (-5, "ooo", [(0, 1, 3, 0, "o"), (1, 2, 3, 0, "o")]))
        self.assertEqual(cut_way(field_of("", "abc", scale)), (-5, "uuu", []))
        self.assertEqual(cut_way(field_of("", "", scale)), (0, "", []))
        self.assertEqual(cut_way(field_of("a", "baa", scale)), (1, "uub", []))

    def test_which_lines_are_halved(self):
        for high, expected in [
            (0, []), (1, []), (2, [(0, 1, 2)]), (3, [(0, 1, 3), (1, 2, 3)]), (4, [(0, 2, 4), (0, 1, 2), (2, 3, 4)]),
            (5, [(0, 2, 5), (0, 1, 2), (2, 3, 5), (3, 4, 5)]),
            (7, [(0, 3, 7), (0, 1, 3), (1, 2, 3), (3, 5, 7), (3, 4, 5), (5, 6, 7)]),
        ]:
            for wide in (0, 1, 4):
                cuts = cut_way(field_from(parts_of(high, high, wide)))[2]
                self.assertEqual([cut[:3] for cut in cuts], expected)

    def test_the_kinds_of_what_is_told(self):
        told = cut_way(field_from(parts_of(1, 5, 5)))
        self.assertEqual([type(part) for part in told], [int, str, list])
        self.assertIs(type(told), tuple)
        for cut in told[2]:
            self.assertIs(type(cut), tuple)
            self.assertEqual([type(part) for part in cut], [int, int, int, int, str])


class WhoseTheyAre(unittest.TestCase):
    def test_told_lists_are_the_askers_own(self):
        field = field_from(parts_of(1, 5, 5))
        ahead = cut_way(field)
        one, other = cut_way(field), cut_way(field)
        self.assertIsNot(one[2], other[2])
        one[2].clear()
        other[2].append(3)
        self.assertEqual(cut_way(field), ahead)

    def test_two_fields_by_turns(self):
        one, other = field_from(parts_of(1, 5, 5)), field_from(parts_of(2, 6, 4))
        expected = cut_way(one), cut_way(other, ends=FREE), cut_way(one, ends=WITHIN)
        for _ in range(3):
            self.assertEqual(cut_way(one, ends=WITHIN), expected[2])
            self.assertEqual(cut_way(other, ends=FREE), expected[1])
            self.assertEqual(cut_way(one), expected[0])
        self.assertEqual((told_by(one), told_by(other)), (parts_of(1, 5, 5), parts_of(2, 6, 4)))


class WhatIsNotAsTold(unittest.TestCase):
    def test_a_field_and_ends(self):
        field = field_from(parts_of(1, 3, 3))
        assert_wrong(self, cut_way, [field, FREE], [NO_FIELDS, bad_ends()], ["ends"])
        assert_wrong(self, cut_way, [field], [NO_FIELDS])
        self.assertEqual(told_by(field), parts_of(1, 3, 3))

    def test_ends_are_handed_in_by_name_alone(self):
        with self.assertRaises(TypeError):
            cut_way(Field([], [], []), WHOLE)


if __name__ == "__main__":
    unittest.main()
