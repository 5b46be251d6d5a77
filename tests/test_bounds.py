"""Points 3, 4, 5 and 21 to 24 of the document: bounds."""

import itertools
import time
import unittest

from laybeside.bounds import Bounds, is_fair
from laybeside.errors import NoPlace
from laybeside.fields import Field, field_of
from laybeside.paths import FREE, WHOLE, WITHIN, fits, step_worth, turned_path, worth_of_path
from laybeside.scales import Scale
from tests.helper import (all_paths, assert_wrong, bad_ends, bad_places, bad_steps, best_paths, cells_in, field_from,
                          knot, no_objects, parts_of, reckoned, refused, shape, strangers, told_by)

ENDS = list(itertools.product((False, True), repeat=4))
GREAT = 10 ** 12
NO_FIELDS = no_objects() + [Field, Scale("a", [[1]]), Bounds(Field([], [], []))]
# Fields in which many paths are worth as much stand among the others.
SMALL_FIELDS = [parts_of(seed, *size) for seed, size in enumerate(itertools.product(range(4), repeat=2))]
SMALL_FIELDS += [parts_of(seed, 3, 3, -1, 1, 1, 1) for seed in range(4)]
SMALL_FIELDS += [parts_of(seed, 3, 2, 0, 4, 0, 4) for seed in range(2)]
SMALL_FIELDS += [([[0] * 3] * 3, [0] * 3, [0] * 3, 0), ([[-9] * 3] * 2, [1] * 2, [1] * 3, 2),
                 parts_of(7, 3, 3, -GREAT, GREAT, GREAT, GREAT)]
LARGER_FIELDS = [parts_of(1, 4, 4), parts_of(2, 5, 3, -2, 2, 1, 1), parts_of(3, 4, 5, -8, 3), parts_of(4, 1, 9)]


def bounds_one_by_one(parts, ends):
    """The table, by all paths from each cell on, one by one."""
    high, wide = len(parts[1]), len(parts[2])
    return [[tuple(max(reckoned(parts, path, ends, at, to, ahead) for path in all_paths(high - at, wide - to))
                   for ahead in "bou") for to in range(wide + 1)] for at in range(high + 1)]


def bounds_by_the_words(parts, ends):
    """The table, by the words of point 22, for fields with too many paths."""
    high, wide = len(parts[1]), len(parts[2])
    told = {(high, wide): (0, 0, 0)}
    for at, to in reversed(cells_in(parts)[:-1]):
        leads = [(step, cell) for step, cell in zip("bou", [(at + 1, to + 1), (at + 1, to), (at, to + 1)])
                 if cell in told]
        told[at, to] = tuple(max(reckoned(parts, step, ends, at, to, ahead) + told[cell]["bou".index(step)]
                                 for step, cell in leads) for ahead in "bou")
    return [[told[at, to] for to in range(wide + 1)] for at in range(high + 1)]


def fair_by_the_words(parts, ends, table):
    """Whether a table of the right form is fair, by the words of point 24."""
    high, wide = len(parts[1]), len(parts[2])
    if any(number < 0 for number in table[high][wide]):
        return False
    for at, to in cells_in(parts):
        for step, (line, column) in zip("bou", [(at + 1, to + 1), (at + 1, to), (at, to + 1)]):
            if line <= high and column <= wide:
                for ahead, number in zip("bou", table[at][to]):
                    behind = table[line][column]["bou".index(step)]
                    if reckoned(parts, step, ends, at, to, ahead) + behind > number:
                        return False
    return True


class EachBound(unittest.TestCase):
    def assert_bounds(self, parts, ends, table):
        bounds = Bounds(field_from(parts), ends=ends)
        self.assertEqual(bounds.table(), table)
        for at, to in cells_in(parts):
            for step, expected in zip("bou", table[at][to]):
                self.assertEqual(bounds.bound(at, to, step), expected)
        self.assertEqual(bounds.worth(), table[0][0][0])

    def test_small_fields_with_all_ends(self):
        for number, parts in enumerate(SMALL_FIELDS):
            for ends in ENDS:
                with self.subTest(number=number, ends=ends):
                    self.assert_bounds(parts, ends, bounds_one_by_one(parts, ends))

    def test_larger_fields(self):
        for number, parts in enumerate(LARGER_FIELDS):
            for ends in (WHOLE, WITHIN, FREE, (True, False, False, True)):
                with self.subTest(number=number, ends=ends):
                    self.assert_bounds(parts, ends, bounds_one_by_one(parts, ends))

    def test_ends_left_out(self):
        for parts in SMALL_FIELDS:
            bounds = Bounds(field_from(parts))
            self.assertEqual(bounds.ends(), WHOLE)
            self.assertEqual(bounds.table(), bounds_one_by_one(parts, WHOLE))

    def test_ends_told(self):
        for ends in ENDS:
            told = Bounds(field_from(parts_of(1, 2, 2)), ends=ends).ends()
            self.assertEqual(told, ends)
            self.assertIs(type(told), tuple)
            self.assertTrue(all(isinstance(end, bool) for end in told))

    def test_great_fields(self):
        for seed, (high, wide) in enumerate([(60, 60), (0, 60), (60, 0), (1, 60), (60, 1), (60, 45)]):
            parts = parts_of(seed, high, wide, -GREAT, GREAT, GREAT, GREAT)
            for ends in (WHOLE, WITHIN, FREE):
                with self.subTest(high=high, wide=wide, ends=ends):
                    self.assert_bounds(parts, ends, bounds_by_the_words(parts, ends))

    def test_the_greatest_numbers(self):
        for worth, price in [(GREAT, 0), (GREAT, GREAT), (-GREAT, GREAT), (-GREAT, 0)]:
            parts = [[worth] * 60 for _ in range(60)], [price] * 60, [price] * 60, price
            bounds = Bounds(field_from(parts))
            by_pairs, alone = 60 * worth, -122 * price
            self.assertEqual(bounds.worth(), max(by_pairs, alone))
            self.assertEqual(bounds.path(), "b" * 60 if by_pairs >= alone else "o" * 60 + "u" * 60)

    def test_in_good_time(self):
        field = field_from(parts_of(5, 60, 60, -GREAT, GREAT, GREAT, GREAT))
        began = time.process_time()
        bounds = Bounds(field, ends=FREE)
        bounds.path()
        self.assertIs(is_fair(field, bounds.table(), ends=FREE), True)
        self.assertLess(time.process_time() - began, 4)

    def test_the_form_of_the_table(self):
        for high, wide in [(0, 0), (0, 3), (3, 0), (2, 4), (60, 60)]:
            table = Bounds(field_from(parts_of(1, high, wide))).table()
            self.assertIs(type(table), list)
            self.assertEqual(len(table), high + 1)
            for line in table:
                self.assertIs(type(line), list)
                self.assertEqual(len(line), wide + 1)
                for cell in line:
                    self.assertIs(type(cell), tuple)
                    self.assertEqual([type(number) for number in cell], [int] * 3)
            self.assertEqual(table[high][wide], (0, 0, 0))

    def test_each_cell_but_the_last_hangs_on_the_steps_that_lead_on(self):
        for seed, ends in enumerate(ENDS):
            field = field_from(parts_of(seed, 9, 7))
            table = Bounds(field, ends=ends).table()
            for at, to in itertools.product(range(10), range(8)):
                for ahead, number in zip("bou", table[at][to]):
                    worths = []
                    if at < 9 and to < 7:
                        worths.append(step_worth(field, at, to, "b", ahead, ends=ends) + table[at + 1][to + 1][0])
                    if at < 9:
                        worths.append(step_worth(field, at, to, "o", ahead, ends=ends) + table[at + 1][to][1])
                    if to < 7:
                        worths.append(step_worth(field, at, to, "u", ahead, ends=ends) + table[at][to + 1][2])
                    self.assertEqual(number, max(worths, default=0))


class PlacesThatThereAreNot(unittest.TestCase):
    def test_cells_beside_the_field(self):
        for high, wide in [(0, 0), (0, 3), (3, 0), (2, 4)]:
            bounds = Bounds(field_from(parts_of(1, high, wide)))
            for at, to, step in itertools.product((0, high, high + 1, high + 9), (0, wide, wide + 1, wide + 9), "bou"):
                if at > high or to > wide:
                    expected = at if at > high else to
                    self.assertEqual(refused(self, NoPlace, bounds.bound, at, to, step).at, expected)

    def test_the_first_of_two(self):
        bounds = Bounds(field_from(parts_of(1, 2, 4)))
        for at, to, expected in [(3, 5, 3), (2, 5, 5), (3, 4, 3), (4, 3, 4), (10 ** 300, 0, 10 ** 300),
                                 (10 ** 300, 10 ** 200, 10 ** 300), (0, 10 ** 200, 10 ** 200)]:
            self.assertEqual(refused(self, NoPlace, bounds.bound, at, to, "u").at, expected)
        self.assertEqual(bounds.table(), Bounds(field_from(parts_of(1, 2, 4))).table())


class TheToldPath(unittest.TestCase):
    def test_it_is_the_least_text_of_the_best(self):
        for number, parts in enumerate(SMALL_FIELDS + LARGER_FIELDS):
            for ends in ENDS:
                with self.subTest(number=number, ends=ends):
                    bounds = Bounds(field_from(parts), ends=ends)
                    best = best_paths(parts, ends)
                    self.assertEqual(bounds.path(), min(best))
                    self.assertEqual(bounds.worth(), reckoned(parts, best[0], ends))

    def test_there_are_fields_with_several_best_paths(self):
        many = [len(best_paths(parts, ends)) for parts in SMALL_FIELDS for ends in ENDS]
        self.assertGreater(sum(one > 1 for one in many), 100)

    def test_where_all_paths_are_worth_as_much(self):
        for high, wide in itertools.product(range(6), repeat=2):
            field = Field([[0] * wide for _ in range(high)], [0] * high, [0] * wide)
            path = "b" * min(high, wide) + "o" * (high - wide) + "u" * (wide - high)
            for ends in ENDS:
                self.assertEqual(Bounds(field, ends=ends).path(), path)

    def test_it_goes_first_step_by_first_step(self):
        for seed, ends in enumerate(ENDS):
            field = field_from(parts_of(seed, 30, 25, -2, 2, 1, 2))
            bounds = Bounds(field, ends=ends)
            table, at, to, ahead = bounds.table(), 0, 0, "b"
            for step in bounds.path():
                meeting = []
                for lead, (line, column) in zip("bou", [(at + 1, to + 1), (at + 1, to), (at, to + 1)]):
                    if line <= 30 and column <= 25:
                        worth = step_worth(field, at, to, lead, ahead, ends=ends)
                        if worth + table[line][column]["bou".index(lead)] == table[at][to]["bou".index(ahead)]:
                            meeting.append(lead)
                self.assertEqual(step, meeting[0])
                at, to, ahead = at + (step != "u"), to + (step != "o"), step
            self.assertEqual((at, to), (30, 25))

    def test_it_fits_and_is_worth_the_worth(self):
        for seed, (high, wide) in enumerate([(60, 60), (60, 13), (5, 60), (0, 60), (60, 0), (0, 0)]):
            for ends in ENDS:
                field = field_from(parts_of(seed, high, wide, -9, 7, 4, 9))
                bounds = Bounds(field, ends=ends)
                self.assertIs(fits(field, bounds.path()), True)
                self.assertEqual(worth_of_path(field, bounds.path(), ends=ends), bounds.worth())

    def test_each_step_of_each_path_is_bounded(self):
        for parts in SMALL_FIELDS[-6:]:
            for ends in ENDS:
                bounds = Bounds(field_from(parts), ends=ends)
                for path in all_paths(len(parts[1]), len(parts[2])):
                    at, to, ahead = 0, 0, "b"
                    for number, step in enumerate(path):
                        rest = reckoned(parts, path[number:], ends, at, to, ahead)
                        self.assertLessEqual(rest, bounds.bound(at, to, ahead))
                        at, to, ahead = at + (step != "u"), to + (step != "o"), step

    def test_of_two_rows(self):
        scale = Scale("abc", [[5, -4, -4], [-4, 5, -4], [-4, -4, 5]], opening=2, each=1)
        bounds = Bounds(field_of("abcab", "acb", scale))
        self.assertEqual((bounds.worth(), bounds.path()), (9, "bobob"))
        bounds = Bounds(field_of("bc", "aabcaa", scale), ends=WITHIN)
        self.assertEqual((bounds.worth(), bounds.path()), (10, "uubbuu"))
        bounds = Bounds(field_of("bc", "aabcaa", scale))
        self.assertEqual((bounds.worth(), bounds.path()), (2, "uubbuu"))
        bounds = Bounds(field_of("aab", "bcc", scale), ends=FREE)
        self.assertEqual((bounds.worth(), bounds.path()), (5, "oobuu"))

    def test_the_field_turned(self):
        for seed, ends in enumerate(ENDS):
            field = field_from(parts_of(seed, 7, 5))
            bounds, turned = Bounds(field, ends=ends), Bounds(field.turned(), ends=ends[2:] + ends[:2])
            self.assertEqual(turned.worth(), bounds.worth())
            path = turned_path(turned.path())
            self.assertEqual(worth_of_path(field, path, ends=ends), bounds.worth())
            for at, to in itertools.product(range(8), range(6)):
                self.assertEqual([turned.bound(to, at, step) for step in "buo"],
                                 [bounds.bound(at, to, step) for step in "bou"])


def changed(table, at, to, step, number):
    """A new table with another number at one place."""
    table = [list(line) for line in table]
    cell = list(table[at][to])
    cell["bou".index(step)] = number
    table[at][to] = tuple(cell)
    return table


class WhetherATableIsFair(unittest.TestCase):
    def test_the_told_one(self):
        for parts in SMALL_FIELDS + LARGER_FIELDS:
            field = field_from(parts)
            for ends in ENDS:
                self.assertIs(is_fair(field, Bounds(field, ends=ends).table(), ends=ends), True)
            self.assertIs(is_fair(field, Bounds(field).table()), True)

    def test_of_other_ends(self):
        for parts in SMALL_FIELDS:
            field = field_from(parts)
            tables = {ends: Bounds(field, ends=ends).table() for ends in ENDS}
            for one, other in itertools.product(ENDS, repeat=2):
                expected = fair_by_the_words(parts, one, tables[other])
                self.assertIs(is_fair(field, tables[other], ends=one), expected)
            # All ends that cost nothing bound all others.
            self.assertIs(is_fair(field, tables[FREE]), True)

    def test_less_at_one_place(self):
        for parts in SMALL_FIELDS:
            field = field_from(parts)
            for ends in (WHOLE, WITHIN, FREE):
                table = Bounds(field, ends=ends).table()
                for (at, to), step in itertools.product(cells_in(parts), "bou"):
                    number = table[at][to]["bou".index(step)]
                    for less in (1, 7, 10 ** 300):
                        lower = changed(table, at, to, step, number - less)
                        self.assertIs(is_fair(field, lower, ends=ends), False)

    def test_greater_at_one_place(self):
        seen = set()
        for parts in SMALL_FIELDS:
            field = field_from(parts)
            for ends in (WHOLE, WITHIN, FREE):
                table = Bounds(field, ends=ends).table()
                for (at, to), step in itertools.product(cells_in(parts), "bou"):
                    number = table[at][to]["bou".index(step)]
                    for more in (1, 7, 10 ** 300):
                        higher = changed(table, at, to, step, number + more)
                        expected = fair_by_the_words(parts, ends, higher)
                        self.assertIs(is_fair(field, higher, ends=ends), expected)
                        seen.add(expected)
                        if (at, to) == (0, 0):
                            self.assertIs(expected, True)
        self.assertEqual(seen, {True, False})

    def test_greater_everywhere_by_one_number(self):
        for parts in SMALL_FIELDS:
            field = field_from(parts)
            for more, expected in [(1, True), (10 ** 300, True), (10 ** 5000, True), (-1, False), (-(10 ** 300), False)]:
                table = [[tuple(number + more for number in cell) for cell in line] for line in Bounds(field).table()]
                self.assertIs(is_fair(field, table), expected)

    def test_very_great_numbers(self):
        field = Field([[5, 1], [-2, 7]], [10, 20], [100, 200], opening=1000)
        self.assertIs(is_fair(field, [[(10 ** 300,) * 3] * 3] * 3), False)
        steep = [[(10 ** 300 * (4 - at - to),) * 3 for to in range(3)] for at in range(3)]
        self.assertIs(is_fair(field, steep), True)
        self.assertIs(is_fair(field, [[(-(10 ** 300),) * 3] * 3] * 3), False)

    def test_the_last_three(self):
        for high, wide in [(0, 0), (0, 2), (2, 0), (2, 2)]:
            field = field_from(parts_of(1, high, wide))
            table = [[tuple(number + 5 for number in cell) for cell in line] for line in Bounds(field).table()]
            for last in itertools.product((-1, 0, 1), repeat=3):
                table[high][wide] = last
                self.assertIs(is_fair(field, table), min(last) >= 0)
            for at, number in itertools.product(range(3), (-1, -2, -(10 ** 300))):
                last = [3, 3, 3]
                last[at] = number
                table[high][wide] = tuple(last)
                self.assertIs(is_fair(field, table), False)

    def test_the_field_without_places(self):
        field = Field([], [], [])
        for three, expected in [((0, 0, 0), True), ((1, 2, 3), True), ((0, -1, 0), False), ((-1, 0, 0), False),
                                ((0, 0, -1), False), ((10 ** 300,) * 3, True)]:
            self.assertIs(is_fair(field, [[three]]), expected)

    def test_a_table_of_another_field(self):
        one, other = field_from(parts_of(1, 2, 3)), field_from(parts_of(9, 3, 2))
        self.assertIs(is_fair(one, Bounds(other).table()), False)
        self.assertIs(is_fair(other, Bounds(one).table()), False)
        self.assertIs(is_fair(one, Bounds(field_from(parts_of(1, 2, 2))).table()), False)
        self.assertIs(is_fair(one, Bounds(field_from(parts_of(1, 2, 4))).table()), False)
        self.assertIs(is_fair(one, Bounds(field_from(parts_of(1, 1, 3))).table()), False)


class WhatIsNoTable(unittest.TestCase):
    # Numbers so great that nothing but the form is wrong.
    def setUp(self):
        self.parts = [[0] * 2] * 2, [1, 1], [1, 1], 1
        self.field = field_from(self.parts)
        self.assertIs(is_fair(self.field, self.table()), True)

    def tearDown(self):
        self.assertEqual(told_by(self.field), self.parts)

    def table(self):
        return [[(9, 9, 9) for _ in range(3)] for _ in range(3)]

    def assert_no_table(self, thing):
        ahead = shape(thing)
        for ends in (WHOLE, FREE):
            self.assertIs(is_fair(self.field, thing, ends=ends), False)
        self.assertIs(is_fair(self.field, thing), False)
        self.assertEqual(shape(thing), ahead)

    def things(self):
        return no_objects() + [len, self.field, Bounds(self.field), tuple(self.table()), {0: 1, 1: 2, 2: 3}, "abc"]

    def test_other_things(self):
        for number, thing in enumerate(self.things()):
            with self.subTest(number=number):
                self.assert_no_table(thing)
                self.assertIs(is_fair(Field([], [], []), thing), False)

    def test_lines(self):
        bad = self.things() + [((9, 9, 9),) * 3, [(9, 9, 9)] * 2, [(9, 9, 9)] * 4, [], [[(9, 9, 9)] * 3],
                               {at: (9, 9, 9) for at in range(3)}, "999", [9] * 9]
        for thing, at in itertools.product(bad, range(3)):
            table = self.table()
            table[at] = thing
            self.assert_no_table(table)

    def test_cells(self):
        bad = strangers() + [[9, 9, 9], (9, 9), (9, 9, 9, 9), (), (9,), 9, 99, "999", True, None, ((9, 9, 9),),
                             {0: 9, 1: 9, 2: 9}]
        for thing, at, to in itertools.product(bad, range(3), range(3)):
            table = self.table()
            table[at][to] = thing
            self.assert_no_table(table)

    def test_numbers(self):
        bad = strangers() + [True, False, "9", "", (), (9,), [9], None]
        for thing, at, to, place in itertools.product(bad, range(3), range(3), range(3)):
            cell = [9, 9, 9]
            cell[place] = thing
            table = self.table()
            table[at][to] = tuple(cell)
            self.assert_no_table(table)

    def test_lines_too_many_and_too_few(self):
        for many in (0, 1, 2, 4, 5):
            self.assert_no_table([[(9, 9, 9)] * 3 for _ in range(many)])
            self.assert_no_table([[(9, 9, 9)] * many for _ in range(3)])

    def test_lists_that_hold_themselves(self):
        table = self.table()
        table[1] = table
        self.assert_no_table(table)
        line = [(9, 9, 9), (9, 9, 9)]
        line.append(line)
        self.assert_no_table([line, line, line])
        self.assert_no_table(knot())
        self.assertIs(is_fair(Field([], [], []), knot()), False)

    def test_one_list_several_times_is_a_table(self):
        self.assertIs(is_fair(self.field, [[(9, 9, 9)] * 3] * 3), True)

    def test_a_fair_table_stays_as_it_was(self):
        table = self.table()
        ahead = shape(table)
        is_fair(self.field, table)
        self.assertEqual((shape(table), table), (ahead, self.table()))


class WhoseListsTheyAre(unittest.TestCase):
    def test_a_told_table_is_the_askers_own(self):
        bounds = Bounds(field_from(parts_of(1, 2, 3)))
        ahead = bounds.table()
        one = bounds.table()
        one[0][0] = None
        one[1].clear()
        one.pop()
        self.assertEqual(bounds.table(), ahead)
        self.assertEqual((bounds.worth(), bounds.bound(0, 0, "b")), (ahead[0][0][0],) * 2)
        self.assertEqual(bounds.path(), Bounds(field_from(parts_of(1, 2, 3))).path())

    def test_no_two_told_lists_are_one_list(self):
        bounds = Bounds(Field([[0] * 3] * 3, [0] * 3, [0] * 3))
        lists = []
        for _ in range(3):
            table = bounds.table()
            lists += [table, *table]
        self.assertEqual(len({id(one) for one in lists}), len(lists))

    def test_lists_of_which_the_field_was_made(self):
        pairs, over, under, opening = parts_of(1, 2, 3)
        field = Field(pairs, over, under, opening=opening)
        bounds = Bounds(field)
        pairs[0][0] += 50
        over.clear()
        under[0] = 99
        self.assertEqual(bounds.table(), bounds_one_by_one(parts_of(1, 2, 3), WHOLE))
        self.assertEqual(Bounds(field).table(), bounds.table())
        self.assertEqual(bounds.path(), best_paths(parts_of(1, 2, 3), WHOLE)[0])

    def test_asked_in_any_order(self):
        field = field_from(parts_of(1, 3, 3))
        asks = [lambda bounds: bounds.path(), lambda bounds: bounds.worth(), lambda bounds: bounds.table(),
                lambda bounds: bounds.ends(), lambda bounds: bounds.bound(1, 2, "o")]
        expected = [ask(Bounds(field, ends=WITHIN)) for ask in asks]
        for order in itertools.permutations(range(5)):
            bounds = Bounds(field, ends=WITHIN)
            for at in order + order[::-1]:
                self.assertEqual(asks[at](bounds), expected[at])
        self.assertEqual(told_by(field), parts_of(1, 3, 3))

    def test_tables_know_nothing_of_one_another(self):
        one, other = field_from(parts_of(1, 3, 3)), field_from(parts_of(2, 2, 4))
        made = [Bounds(one), Bounds(other), Bounds(one, ends=FREE), Bounds(other, ends=WITHIN)]
        ahead = [(bounds.table(), bounds.path(), bounds.worth(), bounds.ends()) for bounds in made]
        made[0].table().clear()
        made[2].table()[0].clear()
        Bounds(one, ends=WITHIN).path()
        self.assertEqual([(bounds.table(), bounds.path(), bounds.worth(), bounds.ends()) for bounds in made], ahead)
        self.assertEqual(ahead[0][0], bounds_one_by_one(parts_of(1, 3, 3), WHOLE))
        self.assertEqual(ahead[3][0], bounds_one_by_one(parts_of(2, 2, 4), WITHIN))


class WhatIsNotAsTold(unittest.TestCase):
    def test_what_bounds_are_made_of(self):
        field = field_from(parts_of(1, 2, 3))
        assert_wrong(self, Bounds, [field, FREE], [NO_FIELDS, bad_ends()], ["ends"])
        assert_wrong(self, Bounds, [field], [NO_FIELDS])
        self.assertEqual(told_by(field), parts_of(1, 2, 3))

    def test_ends_are_handed_in_by_name_alone(self):
        with self.assertRaises(TypeError):
            Bounds(Field([], [], []), WHOLE)
        with self.assertRaises(TypeError):
            is_fair(Field([], [], []), [[(0, 0, 0)]], WHOLE)

    def test_a_cell_and_a_step(self):
        bounds = Bounds(field_from(parts_of(1, 2, 3)))
        ahead = bounds.table()
        for at, to in [(0, 0), (2, 3), (3, 0), (0, 4), (9, 9)]:
            assert_wrong(self, bounds.bound, [at, to, "o"], [bad_places(), bad_places(), bad_steps()])
        self.assertEqual(bounds.table(), ahead)


if __name__ == "__main__":
    unittest.main()
