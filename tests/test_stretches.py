"""Points 3, 4, 25 to 27 and 30 of the document: stretches, and a row within another one."""

import itertools
import time
import unittest

from laybeside.bounds import Bounds
from laybeside.errors import NoLetter, NoPlace
from laybeside.fields import Field, field_of
from laybeside.paths import WHOLE, WITHIN, step_worth
from laybeside.scales import Scale
from laybeside.stretches import Stretches, within
from tests.helper import (SMALL, all_paths, assert_wrong, bad_places, bad_rows, bad_steps, best_paths, cells_in,
                          field_from, no_objects, parts_of, reckoned, refused, row_of, told_by)

GREAT = 10 ** 12
NO_FIELDS = no_objects() + [Field, Scale("a", [[1]]), Bounds(Field([], [], [])), Stretches(Field([], [], []))]
SMALL_FIELDS = [parts_of(seed, *size) for seed, size in enumerate(itertools.product(range(4), repeat=2))]
SMALL_FIELDS += [parts_of(seed, 3, 3, -1, 1, 1, 1) for seed in range(6)]
SMALL_FIELDS += [parts_of(seed, 3, 3, -2, 4, 1, 0) for seed in range(6)]
SMALL_FIELDS += [parts_of(seed, 4, 3, -9, 2, 2, 1) for seed in range(6)]
SMALL_FIELDS += [parts_of(seed, 2, 4, 0, 1, 0, 0) for seed in range(4)]
SMALL_FIELDS += [([[0] * 3] * 3, [0] * 3, [0] * 3, 0), ([[-9] * 3] * 2, [1] * 2, [1] * 3, 2),
                 parts_of(7, 3, 3, -GREAT, GREAT, GREAT, GREAT), parts_of(8, 4, 4, -4, 5, 1, 1)]


def texts_from(parts, at, to):
    """The texts of all stretches from a cell on."""
    high, wide = len(parts[1]), len(parts[2])
    return [path for line in range(at, high + 1) for column in range(to, wide + 1)
            for path in all_paths(line - at, column - to)]


def bounds_one_by_one(parts):
    """The table, by all stretches one by one; the step ahead is told by its place in bou."""
    high, wide = len(parts[1]), len(parts[2])
    return [[tuple(max(reckoned(parts, path, WHOLE, at, to, ahead) for path in texts_from(parts, at, to))
                   for ahead in "bou") for to in range(wide + 1)] for at in range(high + 1)]


def best_stretches(parts):
    """The greatest worth, and all stretches that are worth it, rising."""
    worths = {(at, to, path): reckoned(parts, path, WHOLE, at, to)
              for at, to in cells_in(parts) for path in texts_from(parts, at, to)}
    most = max(worths.values())
    return most, sorted(stretch for stretch, worth in worths.items() if worth == most)


class StretchBounds(unittest.TestCase):
    def test_small_fields(self):
        for number, parts in enumerate(SMALL_FIELDS):
            with self.subTest(number=number):
                stretches = Stretches(field_from(parts))
                table = bounds_one_by_one(parts)
                self.assertEqual(stretches.table(), table)
                for at, to in cells_in(parts):
                    for step, expected in zip("bou", table[at][to]):
                        self.assertEqual(stretches.bound(at, to, step), expected)
                self.assertEqual(stretches.worth(), max(cell[0] for line in table for cell in line))

    def test_the_form_of_the_table(self):
        for high, wide in [(0, 0), (0, 3), (3, 0), (2, 4), (60, 60)]:
            table = Stretches(field_from(parts_of(1, high, wide))).table()
            self.assertIs(type(table), list)
            self.assertEqual([type(line) for line in table], [list] * (high + 1))
            for line in table:
                self.assertEqual([type(cell) for cell in line], [tuple] * (wide + 1))
                for cell in line:
                    self.assertEqual([type(number) for number in cell], [int] * 3)
                    self.assertGreaterEqual(min(cell), 0)
            self.assertEqual(table[high][wide], (0, 0, 0))

    def test_each_cell_of_a_great_field_hangs_on_the_steps_that_lead_on(self):
        field = field_from(parts_of(1, 60, 60, -GREAT, GREAT, GREAT, GREAT))
        began = time.process_time()
        stretches = Stretches(field)
        table, told = stretches.table(), stretches.told()
        self.assertLess(time.process_time() - began, 4)
        for at, to in itertools.product(range(0, 61, 3), range(0, 61, 4)):
            for ahead, number in zip("bou", table[at][to]):
                worths = [0]
                if at < 60 and to < 60:
                    worths.append(step_worth(field, at, to, "b", ahead) + table[at + 1][to + 1][0])
                if at < 60:
                    worths.append(step_worth(field, at, to, "o", ahead) + table[at + 1][to][1])
                if to < 60:
                    worths.append(step_worth(field, at, to, "u", ahead) + table[at][to + 1][2])
                self.assertEqual(number, max(worths))
        parts = parts_of(1, 60, 60, -GREAT, GREAT, GREAT, GREAT)
        self.assertEqual(reckoned(parts, told[2], WHOLE, *told[:2]), stretches.worth())
        self.assertEqual(stretches.worth(), max(cell[0] for line in table for cell in line))
        self.assertEqual(told[:2], min((at, to) for at in range(61) for to in range(61)
                                       if table[at][to][0] == stretches.worth()))

    def test_no_places(self):
        for high, wide in [(0, 0), (0, 1), (1, 0), (0, 60), (60, 0)]:
            stretches = Stretches(field_from(parts_of(1, high, wide)))
            self.assertEqual((stretches.worth(), stretches.told()), (0, (0, 0, "")))
            self.assertEqual(stretches.table(), [[(0, 0, 0)] * (wide + 1)] * (high + 1))

    def test_cells_beside_the_field(self):
        for high, wide in [(0, 0), (0, 3), (3, 0), (2, 4)]:
            stretches = Stretches(field_from(parts_of(1, high, wide)))
            for at, to, step in itertools.product((0, high, high + 1, 99), (0, wide, wide + 1, 10 ** 300), "bou"):
                if at > high or to > wide:
                    expected = at if at > high else to
                    self.assertEqual(refused(self, NoPlace, stretches.bound, at, to, step).at, expected)

    def test_the_first_of_two_places(self):
        stretches = Stretches(field_from(parts_of(1, 2, 4)))
        for at, to, expected in [(3, 5, 3), (2, 5, 5), (3, 4, 3), (4, 3, 4), (8, 9, 8)]:
            self.assertEqual(refused(self, NoPlace, stretches.bound, at, to, "o").at, expected)


class TheToldStretch(unittest.TestCase):
    def test_small_fields(self):
        for number, parts in enumerate(SMALL_FIELDS):
            with self.subTest(number=number):
                stretches = Stretches(field_from(parts))
                most, best = best_stretches(parts)
                self.assertEqual(stretches.worth(), most)
                self.assertEqual(stretches.told(), best[0])
                self.assertEqual([type(part) for part in stretches.told()], [int, int, str])
                self.assertIs(type(stretches.told()), tuple)

    def test_there_are_fields_with_several_best_ones(self):
        several = [best_stretches(parts)[1] for parts in SMALL_FIELDS]
        begun = [best for best in several if any(other[2].startswith(best[0][2]) and other[:2] == best[0][:2]
                                                 for other in best[1:])]
        self.assertGreater(sum(len(best) > 1 for best in several), 10)
        self.assertGreater(len(begun), 5)

    def test_where_none_is_worth_more_than_nothing(self):
        for high, wide in itertools.product(range(5), repeat=2):
            for worth, price in [(0, 0), (-1, 0), (0, 1), (-5, 3)]:
                parts = [[worth] * wide for _ in range(high)], [price] * high, [price] * wide, price
                stretches = Stretches(field_from(parts))
                self.assertEqual((stretches.worth(), stretches.told()), (0, (0, 0, "")))

    def test_by_hand(self):
        field = Field([[0, 0, 0], [0, 4, 0], [0, 0, 4]], [9] * 3, [9] * 3, opening=1)
        # The pair (0, 0) is worth nothing, yet a stretch with it begins at the least cell.
        self.assertEqual((Stretches(field).worth(), Stretches(field).told()), (8, (0, 0, "bbb")))
        field = Field([[-1, 0, 0], [0, 4, 0], [0, 0, 4]], [9] * 3, [9] * 3, opening=1)
        self.assertEqual(Stretches(field).told(), (1, 1, "bb"))
        field = Field([[4, 0], [0, 0]], [0] * 2, [0] * 2)
        self.assertEqual(Stretches(field).told(), (0, 0, "b"))
        field = Field([[-4, 0], [3, -4]], [0] * 2, [0] * 2)
        self.assertEqual(Stretches(field).told(), (0, 0, "ob"))
        field = Field([[-4, 3], [3, -4]], [0] * 2, [0] * 2)
        self.assertEqual(Stretches(field).told(), (0, 0, "ob"))
        field = Field([[-4, 3], [3, -4]], [1] * 2, [1] * 2)
        self.assertEqual(Stretches(field).told(), (0, 1, "b"))
        field = Field([[5, -9, -9], [-9, -9, 5]], [1] * 2, [1] * 3, opening=2)
        self.assertEqual((Stretches(field).worth(), Stretches(field).told()), (7, (0, 0, "bub")))
        field = Field([[5, -9, -9], [-9, -9, 5]], [1] * 2, [1] * 3, opening=4)
        self.assertEqual((Stretches(field).worth(), Stretches(field).told()), (5, (0, 0, "b")))

    def test_the_ends_are_whole(self):
        field = Field([[-9, 2], [-9, -9]], [5] * 2, [5] * 2)
        self.assertEqual(Stretches(field).told(), (0, 1, "b"))

    def test_no_step_ahead_of_the_first_one(self):
        field = Field([[-9, -9], [9, -9]], [1, 1], [1, 1], opening=3)
        stretches = Stretches(field)
        self.assertEqual((stretches.bound(0, 0, "b"), stretches.bound(0, 0, "o")), (5, 8))
        self.assertEqual((stretches.worth(), stretches.told()), (9, (1, 0, "b")))


class WhoseTheyAre(unittest.TestCase):
    def test_told_tables(self):
        stretches = Stretches(field_from(parts_of(1, 2, 3)))
        ahead = stretches.table()
        lists = []
        for _ in range(3):
            table = stretches.table()
            lists += [table, *table]
        self.assertEqual(len({id(one) for one in lists}), len(lists))
        lists[0][0][0] = None
        lists[0][1].clear()
        lists[0].pop()
        self.assertEqual(stretches.table(), ahead)
        self.assertEqual(stretches.told(), best_stretches(parts_of(1, 2, 3))[1][0])

    def test_asked_in_any_order_of_two_fields_by_turns(self):
        fields = [field_from(parts_of(1, 3, 3)), field_from(parts_of(2, 2, 4))]
        asks = [lambda made: made.told(), lambda made: made.worth(), lambda made: made.table(),
                lambda made: made.bound(1, 2, "u")]
        expected = [[ask(Stretches(field)) for ask in asks] for field in fields]
        for order in itertools.permutations(range(4)):
            both = [Stretches(field) for field in fields]
            for at in order + order[::-1]:
                self.assertEqual([asks[at](made) for made in both], [told[at] for told in expected])
        self.assertEqual([told_by(field) for field in fields], [parts_of(1, 3, 3), parts_of(2, 2, 4)])

    def test_lists_of_which_the_field_was_made(self):
        pairs, over, under, opening = parts_of(1, 3, 3)
        stretches = Stretches(Field(pairs, over, under, opening=opening))
        pairs[0][0] = 99
        over.clear()
        under[1] = 0
        self.assertEqual(stretches.told(), best_stretches(parts_of(1, 3, 3))[1][0])
        self.assertEqual(stretches.table(), bounds_one_by_one(parts_of(1, 3, 3)))


class WhatIsNotAsTold(unittest.TestCase):
    def test_what_stretches_are_made_of(self):
        assert_wrong(self, Stretches, [None], [NO_FIELDS])

    def test_a_cell_and_a_step(self):
        stretches = Stretches(field_from(parts_of(1, 2, 3)))
        ahead = stretches.table()
        for at, to in [(0, 0), (2, 3), (3, 0), (0, 4), (9, 9)]:
            assert_wrong(self, stretches.bound, [at, to, "o"], [bad_places(), bad_places(), bad_steps()])
        self.assertEqual(stretches.table(), ahead)


SCALE = Scale("abc", [[5, -4, -3], [-4, 5, -4], [-2, -4, 5]], opening=2, each=1)


def within_by_the_words(path, worth, under):
    """What is told of a row within another one, by the path."""
    heads = len(list(itertools.takewhile(lambda step: step == "u", path)))
    tails = len(list(itertools.takewhile(lambda step: step == "u", path[::-1])))
    return worth, heads, max(heads, len(under) - tails), path[heads:max(heads, len(path) - tails)]


class WithinARow(unittest.TestCase):
    def test_by_hand(self):
        self.assertEqual(within("bc", "aabcaa", SCALE), (10, 2, 4, "bb"))
        self.assertEqual(within("abc", "abc", SCALE), (15, 0, 3, "bbb"))
        self.assertEqual(within("abc", "cabcc", SCALE), (15, 1, 4, "bbb"))
        self.assertEqual(within("abbc", "caabcc", SCALE), (12, 2, 5, "bbob"))
        self.assertEqual(within("abc", "cabac", SCALE), (12, 1, 5, "bbub"))
        self.assertEqual(within("c", "ab", SCALE), (-2, 0, 1, "b"))
        self.assertEqual(within("a", "b", Scale("ab", [[5, -9], [-9, 5]])), (-4, 0, 0, "o"))

    def test_short_rows_by_all_paths_one_by_one(self):
        for seed, (high, wide) in enumerate(itertools.product(range(5), range(5))):
            for more in range(3):
                over, under = row_of(seed + 100 * more, high), row_of(seed + 100 * more + 50, wide)
                with self.subTest(over=over, under=under):
                    parts = told_by(field_of(over, under, SCALE))
                    path = best_paths(parts, WITHIN)[0]
                    expected = within_by_the_words(path, reckoned(parts, path, WITHIN), under)
                    self.assertEqual(within(over, under, SCALE), expected)

    def test_rows_of_all_lengths(self):
        for seed, (high, wide) in enumerate([(40, 40), (5, 40), (40, 5), (1, 40), (40, 1), (12, 30), (20, 20)]):
            for scale in (SCALE, SCALE.turned(), Scale("abc", [[1, 0, 0], [0, 1, 0], [0, 0, 1]], opening=0, each=0)):
                over, under = row_of(seed, high), row_of(seed + 9, wide)
                bounds = Bounds(field_of(over, under, scale), ends=WITHIN)
                told = within(over, under, scale)
                self.assertEqual(told, within_by_the_words(bounds.path(), bounds.worth(), under))
                self.assertEqual("u" * told[1] + told[3] + "u" * (len(under) - told[2]), bounds.path())

    def test_rows_without_letters(self):
        self.assertEqual(within("", "", SCALE), (0, 0, 0, ""))
        self.assertEqual(within("", "abc", SCALE), (0, 3, 3, ""))
        self.assertEqual(within("", "a" * 40, SCALE), (0, 40, 40, ""))
        self.assertEqual(within("abc", "", SCALE), (-5, 0, 0, "ooo"))
        self.assertEqual(within("a" * 40, "", SCALE), (-42, 0, 0, "o" * 40))

    def test_where_no_letter_of_the_over_row_stands_with_one(self):
        scale = Scale("ab", [[-9, -9], [-9, -9]], opening=0, each=0)
        for over, under in [("a", "b"), ("ab", "ba"), ("a", "bbb"), ("aa", "b")]:
            path = best_paths(told_by(field_of(over, under, scale)), WITHIN)[0]
            self.assertEqual(path, "o" * len(over) + "u" * len(under))
            self.assertEqual(within(over, under, scale), (0, 0, 0, "o" * len(over)))

    def test_what_is_told(self):
        told = within("ab", "cabc", SCALE)
        self.assertIs(type(told), tuple)
        self.assertEqual([type(part) for part in told], [int, int, int, str])

    def test_the_first_strange_letter(self):
        for over, under, letter in [("axb", "y", "x"), ("abz", "y", "z"), ("ab", "bay", "y"), ("xy", "zz", "x"),
                                    ("", "abyx", "y"), ("yx", "", "y"), ("a" * 39 + "d", "e", "d"), ("a", "ed", "e")]:
            with self.subTest(over=over, under=under):
                self.assertEqual(refused(self, NoLetter, within, over, under, SCALE).letter, letter)
        for letter in SMALL[3:]:
            self.assertEqual(refused(self, NoLetter, within, letter, "x", SCALE).letter, letter)
            self.assertEqual(refused(self, NoLetter, within, "abc", "c" + letter, SCALE).letter, letter)

    def test_what_is_not_as_told(self):
        for over, under in (("a", "b"), ("x", "b"), ("a", "y"), ("", "")):
            assert_wrong(self, within, [over, under, SCALE], [bad_rows(), bad_rows(), no_objects() + [Scale, Field]])

    def test_the_same_is_told_again(self):
        first = within("abc", "cabac", SCALE)
        within("c", "a", SCALE.turned())
        self.assertEqual(within("abc", "cabac", SCALE), first)
        self.assertEqual(SCALE.worths(), [[5, -4, -3], [-4, 5, -4], [-2, -4, 5]])


if __name__ == "__main__":
    unittest.main()
