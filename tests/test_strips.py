"""Points 3, 4, 6, 8 and 33 to 36 of the document: strips."""

import itertools
import unittest

from laybeside import strips
from laybeside.bounds import Bounds, path_by, table_of
from laybeside.errors import NoPlace
from laybeside.fields import Field, field_of
from laybeside.paths import WHOLE, Steps, cells_of
from laybeside.scales import Scale
from laybeside.strips import strip_paper, strip_way
from tests.helper import (all_paths, assert_wrong, best_paths, field_from, no_objects, parts_of, reckoned, refused,
                          strangers, told_by)

GREAT = 10 ** 12
NO_FIELDS = no_objects() + [Field, Scale("a", [[1]]), Bounds(Field([], [], []))]
SMALL_FIELDS = [parts_of(seed, *size) for seed, size in enumerate(itertools.product(range(4), repeat=2))]
SMALL_FIELDS += [parts_of(seed, 4, 4, -1, 1, 1, 1) for seed in range(3)]
SMALL_FIELDS += [parts_of(seed, 4, 3, -9, 2, 3, 1) for seed in range(3)]
SMALL_FIELDS += [parts_of(seed, 2, 5, 0, 4, 0, 2) for seed in range(3)]
SMALL_FIELDS += [([[0] * 3] * 3, [0] * 3, [0] * 3, 0), ([[-9] * 3] * 2, [1] * 2, [1] * 3, 2),
                 ([[9, 0, 0], [0, 9, 0], [0, 0, 9]], [5, 4, 3], [3, 2, 6], 7)]


def paper_by_the_words(parts, low, high_edge):
    """The paper, by the words of point 34."""
    pairs, over, under, opening = parts
    high, wide = len(over), len(under)
    aside = wide - high
    told = []
    for x, y in [(high_edge + 1 - aside, high_edge + 1), (1 - low, aside - low + 1)]:
        if x > high or y > wide:
            told.append(None)
        else:
            tops = sorted(max([0] + line) for line in pairs)[::-1]
            worth = sum(tops[at] for at in range(high - x))
            worth -= sum(sorted(over)[at] for at in range(x)) + sum(sorted(under)[at] for at in range(y))
            told.append(worth - opening - opening)
    return tuple(told)


def sides_of(path):
    """The least and the greatest of to - at, of all cells that a path goes through."""
    sides = [to - at for at, to in cells_of(path)]
    return min(sides), max(sides)


def edges_of(parts, breadth):
    aside = len(parts[2]) - len(parts[1])
    return min(0, aside) - breadth, max(0, aside) + breadth


def way_one_by_one(parts, breadth):
    """The way by strips, by all paths one by one, and how often the strip grew."""
    paths = all_paths(len(parts[1]), len(parts[2]))
    for grown in itertools.count():
        low, high_edge = edges_of(parts, breadth)
        worths = {path: reckoned(parts, path) for path in paths
                  if low <= sides_of(path)[0] and sides_of(path)[1] <= high_edge}
        most = max(worths.values())
        paper = paper_by_the_words(parts, low, high_edge)
        if all(number is None or number < most for number in paper):
            return (most, min(path for path in worths if worths[path] == most), low, high_edge, *paper), grown
        breadth = breadth * 2 + 1


class ThePaper(unittest.TestCase):
    def test_against_the_words(self):
        nones = set()
        for parts in SMALL_FIELDS:
            field = field_from(parts)
            low, high_edge = edges_of(parts, 0)
            for less, more in itertools.product((0, 1, 2, 3, 4, 5, 60), repeat=2):
                told = strip_paper(field, low - less, high_edge + more)
                self.assertEqual(told, paper_by_the_words(parts, low - less, high_edge + more))
                self.assertIs(type(told), tuple)
                nones.add(tuple(number is None for number in told))
            self.assertEqual(told_by(field), parts)
        self.assertEqual(len(nones), 4)

    def test_great_fields(self):
        for seed, (high, wide) in enumerate([(60, 60), (60, 13), (13, 60), (0, 60), (60, 0), (1, 60), (40, 39)]):
            parts = parts_of(seed, high, wide, -GREAT, GREAT, GREAT, GREAT)
            low, high_edge = edges_of(parts, 0)
            for less, more in itertools.product((0, 1, 12, 13, 14, 38, 39, 40, 58, 59, 60, 61, 140), repeat=2):
                told = strip_paper(field_from(parts), low - less, high_edge + more)
                self.assertEqual(told, paper_by_the_words(parts, low - less, high_edge + more))

    def test_by_hand(self):
        field = Field([[9, -1, 0], [-2, -3, -4], [1, 5, 7]], [5, 4, 3], [3, 2, 6], opening=7)
        # The tops are 9, 0 and 7.
        self.assertEqual(strip_paper(field, 0, 0), (16 - 3 - 2 - 14,) * 2)
        self.assertEqual(strip_paper(field, -1, 0), (16 - 3 - 2 - 14, 9 - 7 - 5 - 14))
        self.assertEqual(strip_paper(field, -2, 1), (9 - 7 - 5 - 14, 0 - 12 - 11 - 14))
        self.assertEqual(strip_paper(field, -3, 2), (0 - 12 - 11 - 14, None))
        self.assertEqual(strip_paper(field, 0, 3), (None, 16 - 3 - 2 - 14))
        field = Field([[4, 3, 6]], [5], [1, 2, 3], opening=1)
        self.assertEqual(strip_paper(field, 0, 2), (0 - 5 - 6 - 2,) * 2)
        self.assertEqual(strip_paper(field, -1, 2), (-13, None))
        self.assertEqual(strip_paper(field, 0, 3), (None, -13))
        field = Field([[4], [3], [6]], [5, 6, 2], [1], opening=1)
        self.assertEqual(strip_paper(field, -2, 0), (0 - 13 - 1 - 2,) * 2)

    def test_fields_without_places_over_or_under(self):
        for high, wide in [(0, 0), (0, 1), (1, 0), (0, 60), (60, 0)]:
            field = field_from(parts_of(1, high, wide))
            low, high_edge = edges_of(told_by(field), 0)
            self.assertEqual(strip_paper(field, low, high_edge), (None, None))

    def test_edges_at_and_beside_their_bounds(self):
        for high, wide in [(0, 0), (2, 2), (1, 4), (4, 1), (0, 60), (60, 0), (60, 60)]:
            parts = parts_of(1, high, wide)
            field = field_from(parts)
            aside = wide - high
            for low, high_edge in itertools.product((-200, -199, aside - 1, aside, aside + 1, -1, 0, 1, 200),
                                                    (-200, -1, 0, 1, aside - 1, aside, aside + 1, 199, 200)):
                with self.subTest(high=high, wide=wide, low=low, high_edge=high_edge):
                    if low > min(0, aside):
                        self.assertEqual(refused(self, NoPlace, strip_paper, field, low, high_edge).at, low)
                    elif high_edge < max(0, aside):
                        self.assertEqual(refused(self, NoPlace, strip_paper, field, low, high_edge).at, high_edge)
                    else:
                        self.assertEqual(strip_paper(field, low, high_edge), paper_by_the_words(parts, low, high_edge))

    def test_the_first_edge_that_is_not_as_told(self):
        wider, higher = field_from(parts_of(1, 2, 5)), field_from(parts_of(1, 5, 2))
        for field, low, high_edge, at in [(wider, 1, 2, 1), (wider, 0, 2, 2), (wider, 3, 3, 3), (wider, 200, -200, 200),
                                          (wider, -200, -200, -200), (higher, -2, 0, -2), (higher, -2, -1, -2),
                                          (higher, -3, -1, -1), (higher, 0, 0, 0), (higher, -200, -3, -3)]:
            with self.subTest(low=low, high_edge=high_edge):
                self.assertEqual(refused(self, NoPlace, strip_paper, field, low, high_edge).at, at)

    def test_no_path_that_leaves_a_strip_is_worth_more(self):
        met = 0
        for parts in SMALL_FIELDS:
            field = field_from(parts)
            paths = [(*sides_of(path), reckoned(parts, path)) for path in all_paths(len(parts[1]), len(parts[2]))]
            low, high_edge = edges_of(parts, 0)
            for edge in range(4):
                above, below = strip_paper(field, low - edge, high_edge + edge)
                for least, greatest, worth in paths:
                    if greatest > high_edge + edge:
                        self.assertLessEqual(worth, above)
                        met += worth == above
                    if least < low - edge:
                        self.assertLessEqual(worth, below)
                        met += worth == below
                # Where there is a number there are places enough for a path that leaves the strip.
                self.assertIs(above is None, all(greatest <= high_edge + edge for _, greatest, _ in paths))
                self.assertIs(below is None, all(least >= low - edge for least, _, _ in paths))
        self.assertGreater(met, 0)


class TheWayByStrips(unittest.TestCase):
    def test_the_breadth_if_none_is_told(self):
        self.assertEqual(strips.FIRST, 2)
        for parts in SMALL_FIELDS:
            field = field_from(parts)
            self.assertEqual(strip_way(field), strip_way(field, breadth=2))

    def test_small_fields_by_all_paths_one_by_one(self):
        grown = set()
        for number, parts in enumerate(SMALL_FIELDS):
            field = field_from(parts)
            for breadth in (0, 1, 2, 3, 7, 60):
                with self.subTest(number=number, breadth=breadth):
                    expected, times = way_one_by_one(parts, breadth)
                    told = strip_way(field, breadth=breadth)
                    self.assertEqual(told, expected)
                    self.assertIs(type(told), tuple)
                    grown.add((breadth, times))
            best = best_paths(parts, WHOLE)
            self.assertEqual(strip_way(field)[:2], (reckoned(parts, best[0]), best[0]))
            self.assertEqual(told_by(field), parts)
        self.assertTrue({(0, 0), (0, 1), (0, 2), (1, 0), (1, 1), (2, 0), (2, 1)} <= grown, grown)

    def test_a_strip_that_grows_again_and_again(self):
        # The further aside the pairs that are worth something stand, the wider the strip must be.
        grown = set()
        for aside in (0, 1, 2, 3, 5, 6, 11, 12, 23, 24, 40, 59):
            pairs = [[9 if to == at + aside else -9 for to in range(60)] for at in range(60)]
            for opening in (0, 20, 200):
                field = Field(pairs, [1] * 60, [1] * 60, opening=opening)
                bounds = Bounds(field)
                for breadth in (0, 1, 2, 5, 30, 60):
                    worth, path, low, high_edge, above, below = strip_way(field, breadth=breadth)
                    self.assertEqual((worth, path), (bounds.worth(), bounds.path()))
                    self.assertEqual((above, below), strip_paper(field, low, high_edge))
                    self.assertEqual(low, -high_edge)
                    times = 0
                    while breadth < high_edge:
                        # A narrower strip was not wide enough: its paper or its worth tells so.
                        self.assertFalse(all(number is None or number < worth
                                             for number in strip_paper(field, -breadth, breadth)) and
                                         sides_of(path)[1] <= breadth)
                        breadth, times = 2 * breadth + 1, times + 1
                    self.assertEqual(breadth, high_edge)
                    grown.add(times)
        self.assertTrue({0, 1, 2, 3, 4, 5} <= grown, grown)

    def test_each_breadth(self):
        parts = parts_of(1, 9, 7, -4, 6, 2, 2)
        field = field_from(parts)
        bounds = Bounds(field)
        for breadth in range(61):
            worth, path, low, high_edge, above, below = strip_way(field, breadth=breadth)
            self.assertEqual((worth, path), (bounds.worth(), bounds.path()))
            self.assertEqual(low + 2, -high_edge)
            self.assertIn(high_edge, [(breadth + 1) * 2 ** times - 1 for times in range(9)])
            self.assertEqual((above, below), paper_by_the_words(parts, low, high_edge))
            self.assertTrue(all(number is None or number < worth for number in (above, below)))

    def test_great_fields(self):
        for seed, (high, wide) in enumerate([(60, 60), (60, 55), (33, 60), (60, 0), (0, 60), (1, 60), (60, 1), (0, 0)]):
            great = parts_of(seed, high, wide, -GREAT, GREAT, GREAT, GREAT)
            for parts in (great, parts_of(seed, high, wide, 0, 9, 9, 9), parts_of(seed, high, wide, 0, 0, 0, 0)):
                field = field_from(parts)
                bounds = Bounds(field)
                told = strip_way(field)
                self.assertEqual(told[:2], (bounds.worth(), bounds.path()))
                self.assertEqual(told[4:], paper_by_the_words(parts, *told[2:4]))
                self.assertTrue(all(number is None or number < told[0] for number in told[4:]))

    def test_a_number_that_is_just_the_worth_is_not_enough(self):
        # Each path is worth nothing, so no number of a paper is below the worth, only None will do.
        field = Field([[0] * 3 for _ in range(3)], [0] * 3, [0] * 3)
        self.assertEqual(strip_way(field, breadth=0), (0, "bbb", -3, 3, None, None))
        self.assertEqual(strip_way(field, breadth=2), (0, "bbb", -5, 5, None, None))
        self.assertEqual(strip_way(field, breadth=3), (0, "bbb", -3, 3, None, None))
        # One less than the worth is enough, just the worth is not.
        for pair, edges, path in [(3, (0, 0), "bb"), (4, (-1, 1), "bb"), (5, (-1, 1), "ubo")]:
            field = Field([[1, pair], [0, 1]], [1, 1], [1, 1])
            self.assertEqual(strip_paper(field, 0, 0), (pair - 2,) * 2)
            self.assertEqual(strip_way(field, breadth=0), (max(2, pair - 2), path, *edges, *strip_paper(field, *edges)))

    def test_by_hand(self):
        scale = Scale("abc", [[5, -4, -4], [-4, 5, -4], [-4, -4, 5]], opening=2, each=1)
        self.assertEqual(strip_way(field_of("abc", "abc", scale), breadth=0), (15, "bbb", 0, 0, 4, 4))
        self.assertEqual(strip_way(field_of("abc", "abc", scale)), (15, "bbb", -2, 2, -10, -10))
        self.assertEqual(strip_way(field_of("ab", "cab", scale), breadth=0), (7, "ubb", 0, 1, -2, -2))
        self.assertEqual(strip_way(field_of("", "abc", scale), breadth=0), (-5, "uuu", 0, 3, None, None))
        self.assertEqual(strip_way(field_of("", "", scale), breadth=0), (0, "", 0, 0, None, None))

    def test_the_kinds_of_what_is_told(self):
        told = strip_way(field_from(parts_of(1, 5, 5)), breadth=0)
        self.assertEqual([type(part) for part in told[:4]], [int, str, int, int])


class TheStripItself(unittest.TestCase):
    def test_no_path_that_leaves_it_is_looked_at(self):
        for number, parts in enumerate(SMALL_FIELDS):
            low, high_edge = edges_of(parts, 0)
            for less, more in itertools.product(range(4), repeat=2):
                with self.subTest(number=number, less=less, more=more):
                    steps = Steps(field_from(parts), WHOLE, low=low - less, high_edge=high_edge + more)
                    table = table_of(steps, False)
                    worths = {path: reckoned(parts, path) for path in all_paths(len(parts[1]), len(parts[2]))
                              if low - less <= sides_of(path)[0] and sides_of(path)[1] <= high_edge + more}
                    most = max(worths.values())
                    self.assertEqual(table[0][0][0], most)
                    self.assertEqual(path_by(table, steps), min(path for path in worths if worths[path] == most))
                    for at, line in enumerate(table):
                        columns = range(max(0, at + low - less), min(len(parts[2]), at + high_edge + more) + 1)
                        self.assertEqual([to for to, cell in enumerate(line) if cell], list(columns))


class WhoseTheyAre(unittest.TestCase):
    def test_two_fields_by_turns(self):
        one, other = field_from(parts_of(1, 5, 5)), field_from(parts_of(2, 6, 4))
        expected = strip_way(one), strip_way(other, breadth=0), strip_paper(one, -2, 3)
        for _ in range(3):
            self.assertEqual(strip_paper(one, -2, 3), expected[2])
            self.assertEqual(strip_way(other, breadth=0), expected[1])
            self.assertEqual(strip_way(one), expected[0])
        self.assertEqual((told_by(one), told_by(other)), (parts_of(1, 5, 5), parts_of(2, 6, 4)))

    def test_lists_of_which_the_field_was_made(self):
        pairs, over, under, opening = parts_of(1, 4, 4)
        field = Field(pairs, over, under, opening=opening)
        pairs[0][0] = 99
        over.clear()
        under[1] = 0
        self.assertEqual(strip_way(field, breadth=0), way_one_by_one(parts_of(1, 4, 4), 0)[0])


def bad_numbers():
    """Things that are no whole numbers from -200 to 200."""
    return strangers() + [True, False, "", "0", "-1", (), (0,), 201, -201, 10 ** 300, -(10 ** 300)]


def bad_breadths():
    """Things that are no whole numbers from 0 to 60."""
    return strangers() + [True, False, "", "0", "2", (), (2,), -1, -2, 61, 62, 200, 10 ** 300, -(10 ** 300)]


class WhatIsNotAsTold(unittest.TestCase):
    def test_a_paper(self):
        field = field_from(parts_of(1, 2, 4))
        for low, high_edge in [(0, 2), (-200, 200), (1, 2), (0, 1), (200, -200)]:
            assert_wrong(self, strip_paper, [field, low, high_edge], [NO_FIELDS, bad_numbers(), bad_numbers()])
        self.assertEqual(told_by(field), parts_of(1, 2, 4))

    def test_a_way(self):
        field = field_from(parts_of(1, 2, 4))
        assert_wrong(self, strip_way, [field, 0], [NO_FIELDS, bad_breadths()], ["breadth"])
        assert_wrong(self, strip_way, [field], [NO_FIELDS])
        self.assertEqual(told_by(field), parts_of(1, 2, 4))

    def test_the_breadth_is_handed_in_by_name_alone(self):
        with self.assertRaises(TypeError):
            strip_way(Field([], [], []), 2)


if __name__ == "__main__":
    unittest.main()
