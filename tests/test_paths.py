"""Points 3, 4 and 17 to 20 of the document: paths."""

import itertools
import unittest

from laybeside import paths
from laybeside.errors import Bare, NoPlace, Unlike
from laybeside.fields import Field, field_of
from laybeside.paths import (FREE, WHOLE, WITHIN, cells_of, fits, gapped, path_between, runs_of, step_worth,
                             turned_path, worth_of_path)
from laybeside.scales import Scale
from tests.helper import (SMALL, all_paths, assert_wrong, bad_ends, bad_gapped, bad_paths, bad_places, bad_rows,
                          bad_steps, drawn, field_from, no_objects, parts_of, reckoned, refused, told_by)

ENDS = list(itertools.product((False, True), repeat=4))
SIZES = [(0, 0), (0, 1), (1, 0), (1, 1), (2, 1), (1, 3), (3, 2), (3, 3), (0, 4), (4, 0), (4, 3)]
NO_FIELDS = no_objects() + [Field, Scale("a", [[1]])]
PATHS = ["", "b", "o", "u", "bb", "ou", "uo", "bou", "uub", "obbo", "oooo", "ubbbu", "uuoobb", "bouuoob",
         "b" * 60, "o" * 60, "u" * 120, "bou" * 40, "u" * 60 + "o" * 60, "bbuo" * 30, "bbboobu" * 17 + "b"]


def text_of(seed, many, signs):
    """A text of so many of these signs, always the same one for a seed."""
    return "".join(signs[at] for at in drawn(seed, many, 0, len(signs) - 1))


def fitting(seed, high, wide):
    """A path through so many places over and under, with steps of each kind by turns."""
    path = ""
    for step in text_of(seed, 200, "bou"):
        if (step == "u" or high) and (step == "o" or wide):
            high, wide = high - (step != "u"), wide - (step != "o")
            path += step
    return path + "o" * high + "u" * wide


class TheEnds(unittest.TestCase):
    def test_what_they_are(self):
        self.assertEqual(paths.WHOLE, (False, False, False, False))
        self.assertEqual(paths.WITHIN, (False, False, True, True))
        self.assertEqual(paths.FREE, (True, True, True, True))
        for ends in (WHOLE, WITHIN, FREE):
            self.assertIs(type(ends), tuple)
            self.assertEqual({type(end) for end in ends}, {bool})


class WhetherAPathFits(unittest.TestCase):
    def test_small_fields_and_all_short_texts(self):
        for high, wide in itertools.product(range(4), repeat=2):
            field = field_from(parts_of(1, high, wide))
            right = set(all_paths(high, wide))
            for many in range(7):
                for path in map("".join, itertools.product("bou", repeat=many)):
                    self.assertIs(fits(field, path), path in right, (high, wide, path))

    def test_great_fields(self):
        for high, wide in [(60, 60), (60, 59), (0, 60), (60, 0), (1, 60), (60, 1), (40, 50)]:
            field = field_from(parts_of(1, high, wide))
            for seed in range(3):
                path = fitting(seed, high, wide)
                self.assertIs(fits(field, path), True)
                self.assertIs(fits(field, path[::-1]), True)
                self.assertIs(fits(field, path[:-1]), False)
                self.assertIs(fits(field, path[1:] + "bb"), False)
                if len(path) < 120:
                    for step in "bou":
                        self.assertIs(fits(field, path + step), False)
        self.assertIs(fits(field_from(parts_of(1, 60, 60)), "u" * 60 + "o" * 60), True)
        self.assertIs(fits(field_from(parts_of(1, 60, 60)), "u" * 60 + "b" * 60), False)

    def test_what_is_not_as_told(self):
        field = field_from(parts_of(1, 2, 3))
        for path in ("bbu", "", "b"):
            assert_wrong(self, fits, [field, path], [NO_FIELDS, bad_paths()])
        self.assertEqual(told_by(field), parts_of(1, 2, 3))


class TheWorthOfAPath(unittest.TestCase):
    def test_by_hand(self):
        field = Field([[5, 1], [-2, 7]], [10, 20], [100, 200], opening=1000)
        for path, worth in [("bb", 12), ("bou", 5 - 1020 - 1200), ("buo", 5 - 1200 - 1020), ("oub", -1010 - 1100 + 7),
                            ("oouu", -1010 - 20 - 1100 - 200), ("ouou", -1010 - 1100 - 1020 - 1200),
                            ("obu", -1010 - 2 - 1200), ("uuoo", -1100 - 200 - 1010 - 20), ("ubo", -1100 + 1 - 1020),
                            ("uob", -1100 - 1010 + 7)]:
            with self.subTest(path=path):
                self.assertEqual(worth_of_path(field, path), worth)

    def test_by_hand_with_ends(self):
        field = Field([[5, 1], [-2, 7]], [10, 20], [100, 200], opening=1000)
        head_over, tail_over, head_under, tail_under = [tuple(at == one for at in range(4)) for one in range(4)]
        for path, ends, worth in [
            ("oouu", head_over, -1100 - 200), ("oouu", tail_under, -1010 - 20), ("oouu", tail_over, -2330),
            ("oouu", head_under, -2330), ("uuoo", tail_over, -1100 - 200), ("uuoo", head_under, -1010 - 20),
            ("uuoo", head_over, -2330), ("uuoo", tail_under, -2330), ("oouu", FREE, 0), ("uuoo", FREE, 0),
            ("bou", FREE, 5 - 1020), ("bou", tail_under, 5 - 1020), ("bou", tail_over, 5 - 1020 - 1200),
            ("oub", FREE, -1100 + 7), ("obu", FREE, -2), ("ubo", FREE, 1), ("ubo", WITHIN, 1 - 1020),
            ("ouou", FREE, -1100 - 1020), ("uob", FREE, -1010 + 7), ("uob", head_under, -1010 + 7),
            ("ouou", head_over, -1100 - 1020 - 1200),
        ]:
            with self.subTest(path=path, ends=ends):
                self.assertEqual(worth_of_path(field, path, ends=ends), worth)

    def test_all_paths_of_small_fields_with_all_ends(self):
        for seed, (high, wide) in enumerate(SIZES):
            great = parts_of(seed + 50, high, wide, -10 ** 12, 10 ** 12, 10 ** 12, 10 ** 12)
            for parts in (parts_of(seed, high, wide), great):
                field = field_from(parts)
                for path, ends in itertools.product(all_paths(high, wide), ENDS):
                    self.assertEqual(worth_of_path(field, path, ends=ends), reckoned(parts, path, ends), (path, ends))
                for path in all_paths(high, wide):
                    self.assertEqual(worth_of_path(field, path), reckoned(parts, path), path)
                self.assertEqual(told_by(field), parts)

    def test_great_fields(self):
        for seed, (high, wide) in enumerate([(60, 60), (0, 60), (60, 0), (1, 60), (60, 1), (37, 55)]):
            parts = parts_of(seed, high, wide, -10 ** 12, 10 ** 12, 10 ** 12, 10 ** 12)
            field = field_from(parts)
            for path in (fitting(seed, high, wide), "o" * high + "u" * wide, "u" * wide + "o" * high):
                for ends in ENDS:
                    self.assertEqual(worth_of_path(field, path, ends=ends), reckoned(parts, path, ends))

    def test_a_run_behind_a_run(self):
        parts = [[3] * 4] * 4, [1, 2, 4, 8], [16, 32, 64, 128], 1000
        field = field_from(parts)
        for path in ("boubou", "buobuo", "buuoob", "boouub", "ouououou", "uoououou", "oouuoouu", "uuoouuoo"):
            self.assertIs(fits(field, path), True)
            for ends in ENDS:
                self.assertEqual(worth_of_path(field, path, ends=ends), reckoned(parts, path, ends))
        self.assertEqual(worth_of_path(field, "buuoob"), 6 - 1096 - 1006)
        self.assertEqual(worth_of_path(field, "boouub"), 6 - 1006 - 1096)
        self.assertEqual(worth_of_path(field, "boubou"), 6 - 1002 - 1032 - 1008 - 1128)

    def test_the_field_of_two_rows(self):
        field = field_of("ab", "b", Scale("ab", [[5, -4], [-3, 6]], opening=3, each=1))
        self.assertEqual(worth_of_path(field, "ob"), 2)
        self.assertEqual(worth_of_path(field, "ob", ends=FREE), 6)
        self.assertEqual(worth_of_path(field, "bo"), -8)

    def test_a_path_that_does_not_fit(self):
        for high, wide in [(0, 0), (0, 2), (2, 0), (1, 1), (2, 3), (60, 60)]:
            field = field_from(parts_of(1, high, wide))
            for path in PATHS:
                if not fits(field, path):
                    for ends in (WHOLE, WITHIN, FREE):
                        refused(self, Unlike, worth_of_path, field, path, ends=ends)
                    refused(self, Unlike, worth_of_path, field, path)

    def test_ends_are_handed_in_by_name_alone(self):
        with self.assertRaises(TypeError):
            worth_of_path(field_from(parts_of(1, 1, 1)), "b", WHOLE)

    def test_what_is_not_as_told(self):
        field = field_from(parts_of(1, 2, 3))
        for path in ("bbu", "", "b" * 120):
            wrong = [NO_FIELDS, bad_paths(), bad_ends()]
            assert_wrong(self, worth_of_path, [field, path, FREE], wrong, ["ends"])
            assert_wrong(self, worth_of_path, [field, path], wrong[:2])
        self.assertEqual(told_by(field), parts_of(1, 2, 3))


class TheWorthOfAStep(unittest.TestCase):
    def test_each_cell_behind_each_step_with_all_ends(self):
        for seed, (high, wide) in enumerate(SIZES):
            parts = parts_of(seed, high, wide)
            field = field_from(parts)
            for at, to, step, ahead in itertools.product(range(high + 2), range(wide + 2), "bou", "bou"):
                if at > high or (at == high and step != "u"):
                    self.assertEqual(refused(self, NoPlace, step_worth, field, at, to, step, ahead).at, at)
                elif to > wide or (to == wide and step != "o"):
                    self.assertEqual(refused(self, NoPlace, step_worth, field, at, to, step, ahead).at, to)
                else:
                    for ends in ENDS:
                        expected = reckoned(parts, step, ends, at, to, ahead)
                        self.assertEqual(step_worth(field, at, to, step, ahead, ends=ends), expected)
                    expected = reckoned(parts, step, WHOLE, at, to, ahead)
                    self.assertEqual(step_worth(field, at, to, step, ahead), expected)

    def test_the_places_that_there_are_not(self):
        field = field_from(parts_of(1, 2, 4))
        for at, to, step, expected in [
            (2, 4, "b", 2), (2, 4, "o", 2), (2, 4, "u", 4), (2, 0, "b", 2), (2, 0, "o", 2), (3, 0, "u", 3),
            (3, 9, "b", 3), (3, 9, "o", 3), (3, 9, "u", 3), (1, 4, "b", 4), (1, 4, "u", 4), (1, 5, "o", 5),
            (1, 5, "b", 5), (1, 5, "u", 5), (2, 5, "u", 5), (2, 5, "o", 2), (2, 5, "b", 2),
            (10 ** 300, 10 ** 200, "u", 10 ** 300), (0, 10 ** 200, "o", 10 ** 200),
        ]:
            for ahead in "bou":
                for ends in (WHOLE, FREE):
                    with self.subTest(at=at, to=to, step=step, ahead=ahead):
                        refusal = refused(self, NoPlace, step_worth, field, at, to, step, ahead, ends=ends)
                        self.assertEqual(refusal.at, expected)

    def test_a_path_is_worth_the_sum_of_its_steps(self):
        for seed, (high, wide) in enumerate(SIZES + [(60, 60), (20, 33)]):
            field = field_from(parts_of(seed, high, wide))
            for path in (fitting(seed, high, wide), fitting(seed + 9, high, wide), "u" * wide + "o" * high):
                for ends in ENDS:
                    steps = zip(cells_of(path), path, "b" + path)
                    worth = sum(step_worth(field, *cell, step, ahead, ends=ends) for cell, step, ahead in steps)
                    self.assertEqual(worth, worth_of_path(field, path, ends=ends))

    def test_in_each_cell_of_a_great_field(self):
        parts = parts_of(8, 60, 60, -10 ** 12, 10 ** 12, 10 ** 12, 10 ** 12)
        field = field_from(parts)
        for at, to in itertools.product((0, 1, 30, 59, 60), (0, 1, 30, 59, 60)):
            for step, ahead in itertools.product("bou", repeat=2):
                if not (at == 60 and step != "u" or to == 60 and step != "o"):
                    expected = reckoned(parts, step, WITHIN, at, to, ahead)
                    self.assertEqual(step_worth(field, at, to, step, ahead, ends=WITHIN), expected)

    def test_what_is_not_as_told(self):
        field = field_from(parts_of(1, 2, 3))
        wrong = [NO_FIELDS, bad_places(), bad_places(), bad_steps(), bad_steps(), bad_ends()]
        for at, to, step in [(0, 0, "b"), (2, 0, "b"), (9, 9, "u"), (0, 3, "u")]:
            assert_wrong(self, step_worth, [field, at, to, step, "u", WITHIN], wrong, ["ends"])
            assert_wrong(self, step_worth, [field, at, to, step, "b"], wrong[:5])
        self.assertEqual(told_by(field), parts_of(1, 2, 3))


class CellsAndRuns(unittest.TestCase):
    def test_by_hand(self):
        self.assertEqual(cells_of(""), [(0, 0)])
        self.assertEqual(cells_of("b"), [(0, 0), (1, 1)])
        self.assertEqual(cells_of("o"), [(0, 0), (1, 0)])
        self.assertEqual(cells_of("u"), [(0, 0), (0, 1)])
        self.assertEqual(cells_of("uboo"), [(0, 0), (0, 1), (1, 2), (2, 2), (3, 2)])
        self.assertEqual(runs_of(""), [])
        self.assertEqual(runs_of("b"), [("b", 1)])
        self.assertEqual(runs_of("bbouu"), [("b", 2), ("o", 1), ("u", 2)])
        self.assertEqual(runs_of("bobob"), [("b", 1), ("o", 1), ("b", 1), ("o", 1), ("b", 1)])
        self.assertEqual(runs_of("u" * 120), [("u", 120)])

    def test_cells(self):
        for path in PATHS + [text_of(seed, 120, "bou") for seed in range(5)]:
            with self.subTest(path=path):
                expected = [(sum(step != "u" for step in path[:at]), sum(step != "o" for step in path[:at]))
                            for at in range(len(path) + 1)]
                self.assertEqual(cells_of(path), expected)
                self.assertEqual({type(cell) for cell in cells_of(path)}, {tuple})
                self.assertEqual({type(place) for cell in cells_of(path) for place in cell}, {int})

    def test_runs(self):
        for path in PATHS + [text_of(seed, 120, "bou") for seed in range(5)]:
            with self.subTest(path=path):
                expected = [(step, len(list(steps))) for step, steps in itertools.groupby(path)]
                self.assertEqual(runs_of(path), expected)
                self.assertEqual("".join(step * many for step, many in runs_of(path)), path)
                self.assertTrue(all(type(run) is tuple for run in runs_of(path)))

    def test_all_short_paths(self):
        for many in range(7):
            for path in map("".join, itertools.product("bou", repeat=many)):
                expected = [(step, len(list(steps))) for step, steps in itertools.groupby(path)]
                self.assertEqual(runs_of(path), expected)
                self.assertEqual(len(cells_of(path)), len(path) + 1)

    def test_told_lists_are_the_askers_own(self):
        for call in (cells_of, runs_of):
            one, other = call("bou"), call("bou")
            self.assertIs(type(one), list)
            self.assertIsNot(one, other)
            one.clear()
            self.assertEqual(call("bou"), other)

    def test_what_is_not_as_told(self):
        for call in (cells_of, runs_of, turned_path):
            assert_wrong(self, call, ["b"], [bad_paths()])


class ATurnedPath(unittest.TestCase):
    def test_by_hand(self):
        for path, turned in [("", ""), ("b", "b"), ("o", "u"), ("u", "o"), ("buob", "boub"), ("o" * 120, "u" * 120)]:
            self.assertEqual(turned_path(path), turned)

    def test_each(self):
        for path in PATHS + [text_of(seed, 120, "bou") for seed in range(5)]:
            swapped = path.replace("o", "x").replace("u", "o").replace("x", "u")
            self.assertEqual(turned_path(path), swapped)
            self.assertEqual(turned_path(turned_path(path)), path)
            self.assertEqual(cells_of(swapped), [(to, at) for at, to in cells_of(path)])

    def test_it_is_worth_the_same_in_the_field_turned(self):
        for seed, (high, wide) in enumerate(SIZES):
            field = field_from(parts_of(seed, high, wide))
            turned = field.turned()
            for path, ends in itertools.product(all_paths(high, wide), ENDS):
                worth = worth_of_path(turned, turned_path(path), ends=ends[2:] + ends[:2])
                self.assertEqual(worth, worth_of_path(field, path, ends=ends))


class GappedRows(unittest.TestCase):
    def test_by_hand(self):
        self.assertEqual(gapped("", "", ""), ("", ""))
        self.assertEqual(gapped("ab", "", "oo"), ("ab", "--"))
        self.assertEqual(gapped("", "ab", "uu"), ("--", "ab"))
        self.assertEqual(gapped("ab", "cd", "bb"), ("ab", "cd"))
        self.assertEqual(gapped("abc", "xy", "boub"[:3] + "o"), ("ab-c", "x-y-"))
        self.assertEqual(gapped("abc", "xyz", "ouobu"), ("a-bc-", "-x-yz"))

    def test_there_and_back(self):
        for seed in range(40):
            path = text_of(seed, 13 + seed % 40, "bou")
            over = text_of(seed + 1, len(path) - path.count("u"), SMALL)
            under = text_of(seed + 2, len(path) - path.count("o"), SMALL)
            if len(over) <= 40 and len(under) <= 40:
                with self.subTest(path=path):
                    both = gapped(over, under, path)
                    self.assertIs(type(both), tuple)
                    self.assertEqual([len(row) for row in both], [len(path)] * 2)
                    self.assertEqual(tuple(row.replace("-", "") for row in both), (over, under))
                    for step, one, other in zip(path, *both):
                        self.assertEqual((one == "-", other == "-"), (step == "u", step == "o"))
                    self.assertEqual(path_between(*both), path)

    def test_all_short_ones(self):
        for high, wide in itertools.product(range(4), repeat=2):
            for path in all_paths(high, wide):
                self.assertEqual(path_between(*gapped("abc"[:high], "xyz"[:wide], path)), path)

    def test_the_longest(self):
        over, under = "a" * 40, "b" * 40
        self.assertEqual(gapped(over, under, "o" * 40 + "u" * 40), (over + "-" * 40, "-" * 40 + under))
        self.assertEqual(gapped(over, under, "u" * 40 + "o" * 40), ("-" * 40 + over, under + "-" * 40))
        self.assertEqual(gapped(over, under, "b" * 40), (over, under))

    def test_a_path_that_does_not_fit(self):
        for over, under in [("", ""), ("a", ""), ("", "a"), ("ab", "cd"), ("abc", "de"), ("a" * 40, "b" * 40)]:
            for path in PATHS:
                if (len(path) - path.count("u"), len(path) - path.count("o")) != (len(over), len(under)):
                    with self.subTest(over=over, under=under, path=path):
                        refused(self, Unlike, gapped, over, under, path)
        refused(self, Unlike, gapped, "ab", "cd", "bo")
        refused(self, Unlike, gapped, "ab", "cd", "bu")

    def test_what_is_not_as_told(self):
        for over, under, path in [("ab", "cd", "bb"), ("ab", "cd", "b"), ("", "", "")]:
            assert_wrong(self, gapped, [over, under, path], [bad_rows(), bad_rows(), bad_paths()])


class ThePathBetween(unittest.TestCase):
    def test_by_hand(self):
        for one, other, path in [("", "", ""), ("a", "b", "b"), ("a", "-", "o"), ("-", "b", "u"),
                                 ("a-b", "-cd", "oub"), ("--", "xy", "uu"), ("xy", "--", "oo"),
                                 ("a" * 120, "b" * 120, "b" * 120), ("a" * 120, "-" * 120, "o" * 120),
                                 ("-" * 120, "z" * 120, "u" * 120), ("-a" * 60, "a-" * 60, "uo" * 60)]:
            self.assertEqual(path_between(one, other), path)

    def test_not_one_length(self):
        for one, other in [("", "a"), ("a", ""), ("-", ""), ("", "-"), ("ab", "abc"), ("--", "-"), ("-a", "-ab"),
                           ("a" * 120, "a" * 119), ("-" * 119, "-" * 120)]:
            with self.subTest(one=one, other=other):
                refused(self, Unlike, path_between, one, other)

    def test_a_place_at_which_both_are_bare(self):
        for one, other, at in [("-", "-", 0), ("a-", "b-", 1), ("-a-", "b--", 2), ("--", "--", 0), ("a--", "b--", 1),
                               ("-a", "-b", 0), ("a-b-", "cd--", 3), ("x" * 119 + "-", "y" * 119 + "-", 119),
                               ("-" * 120, "-" * 120, 0), ("-" * 120, "a" * 60 + "-" * 60, 60)]:
            with self.subTest(one=one, other=other):
                self.assertEqual(refused(self, Bare, path_between, one, other).at, at)

    def test_what_is_not_as_told(self):
        for one, other in [("a-", "bc"), ("a", "bc"), ("-", "-"), ("", "")]:
            assert_wrong(self, path_between, [one, other], [bad_gapped(), bad_gapped()])


if __name__ == "__main__":
    unittest.main()
