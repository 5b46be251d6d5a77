"""Points 3, 4, 6, 9 and 42 to 45 of the document: joined rows."""

import itertools
import time
import unittest

from laybeside.bounds import Bounds
from laybeside.errors import Alone, Bare, NoLetter, NoRow, TooLong, TooMany, Unlike
from laybeside.fields import Field, field_of
from laybeside.joins import Joined, joined_all
from laybeside.scales import Scale
from tests.helper import (assert_wrong, bad_gapped, bad_places, bad_rows, best_paths, drawn, laid, no_objects,
                          parts_by_the_words, refused, row_of, strangers, told_by, without_bare)

SCALE = Scale("abc", [[5, -4, -3], [-4, 5, -4], [-2, -4, 5]], opening=2, each=1)
# Many paths are worth as much by this one.
FLAT = Scale("abc", [[1, 0, 0], [0, 1, 0], [0, 0, 1]], opening=0, each=0)
GREAT = Scale("abcdefgh", [[(at - to) * 10 ** 5 for to in range(8)] for at in range(8)], opening=10 ** 6, each=10 ** 6)
MANY_ROWS = ["ab-c", "-bcc", "a--c", "----", "abca", "cc--", "--b-", "aaaa"]


def joined_drawn(seed, many, columns, letters="abc", gaps=1):
    """So many gapped rows of so many columns, with a letter in each; always the same ones for a seed."""
    rows = [list(row_of(seed + 100 * at, columns, letters + "-" * gaps)) for at in range(many)]
    for column in range(columns):
        if all(row[column] == "-" for row in rows):
            rows[column % many][column] = letters[column % len(letters)]
    return ["".join(row) for row in rows]


def bad_joined():
    """Things that are no lists of one to eight gapped rows of at most 60 signs."""
    singles = [[thing] for thing in bad_gapped()] + [["a", thing, "b"] for thing in bad_gapped()]
    return [thing for thing in strangers() if thing != ["a"] and thing != ["b", "o", "u"] and thing != ["over"]] + [
        True, False, 0, 1, "", "a", "ab", (), ("a",), ("a", "b"), ["a"] * 9, [""] * 9, ["a"] * 100, ["a" * 61],
        ["a", "b" * 61], ["-" * 61], ["a" * 120], ["a", ["b"]], ["a", 1], [None], ["ab", ""] * 5] + singles


def bad_lists_of_rows():
    """Things that are no lists of one to eight rows."""
    singles = [[thing] for thing in bad_rows()] + [["a", thing, "b"] for thing in bad_rows()]
    return [thing for thing in strangers() if thing != ["a"] and thing != ["b", "o", "u"] and thing != ["over"]] + [
        True, False, 0, 1, "", "a", "ab", (), ("a",), ["a"] * 9, [""] * 9, ["a-"], ["a", "-"]] + singles


def no_joined():
    """Things that are no joined ones."""
    return no_objects() + [Joined, SCALE, ["ab"], field_of("a", "b", SCALE)]


def no_scales():
    return no_objects() + [Scale, Field, Joined(["a"])]


class WhatIsTold(unittest.TestCase):
    def test_rows_of_all_numbers_and_lengths(self):
        for many, columns, gaps in itertools.product(range(1, 9), (0, 1, 2, 7, 59, 60), (0, 1, 4)):
            rows = joined_drawn(many + columns, many, columns, gaps=gaps)
            joined = Joined(rows)
            with self.subTest(many=many, columns=columns):
                self.assertEqual((joined.rows(), joined.many(), joined.columns()), (rows, many, columns))
                expected = [[(letter, signs.count(letter)) for letter in "abc" if letter in signs]
                            for signs in zip(*rows)]
                self.assertEqual(joined.counts(), expected)
                self.assertEqual([joined.row_of(at) for at in range(many)], [row.replace("-", "") for row in rows])

    def test_by_hand(self):
        joined = Joined(["zb-a", "-b-a", "ab-z", "--c-"])
        self.assertEqual(joined.counts(), [[("a", 1), ("z", 1)], [("b", 3)], [("c", 1)], [("a", 2), ("z", 1)]])
        self.assertEqual((joined.many(), joined.columns(), joined.row_of(1), joined.row_of(3)), (4, 4, "ba", "c"))

    def test_rows_of_gaps_alone(self):
        joined = Joined(["---", "abc", "---"])
        self.assertEqual((joined.row_of(0), joined.row_of(1), joined.row_of(2)), ("", "abc", ""))
        self.assertEqual(joined.counts(), [[("a", 1)], [("b", 1)], [("c", 1)]])
        self.assertEqual((joined.between(0, 2), joined.between(2, 2), joined.between(0, 1)), ("", "", "uuu"))

    def test_rows_without_letters(self):
        for many in range(1, 9):
            joined = Joined([""] * many)
            self.assertEqual((joined.rows(), joined.many(), joined.columns(), joined.counts()),
                             ([""] * many, many, 0, []))
            self.assertEqual((joined.row_of(many - 1), joined.between(0, many - 1)), ("", ""))

    def test_the_kinds_of_what_is_told(self):
        joined = Joined(["ab", "-c"])
        self.assertEqual([type(joined.rows()), type(joined.counts())], [list, list])
        self.assertEqual([type(joined.many()), type(joined.columns())], [int, int])
        for column in joined.counts():
            self.assertIs(type(column), list)
            for pair in column:
                self.assertIs(type(pair), tuple)
                self.assertEqual([type(part) for part in pair], [str, int])
        self.assertIs(type(joined.field_with(joined, SCALE)), Field)
        for told in (joined.without(0), joined.joined_with(joined, SCALE), joined_all(["a"], SCALE)):
            self.assertIs(type(told), Joined)

    def test_unlike_lengths(self):
        for rows in (["a", ""], ["", "a"], ["ab", "ab", "a"], ["-", "--"], ["a" * 60, "a" * 59], ["a-", "a", "--"],
                     ["--", "-", "--"], ["a"] * 7 + ["ab"]):
            refused(self, Unlike, Joined, rows)

    def test_columns_without_a_letter(self):
        for rows, at in [(["-"], 0), (["a-"], 1), (["-a-"], 0), (["a-b", "a--"], 1), (["--", "--"], 0),
                         (["ab-", "ab-"], 2),
                         (["a" * 59 + "-"], 59), (["-" * 60] * 8, 0), (["a--", "---", "b--"], 1), (["ab--c-"], 2)]:
            with self.subTest(rows=rows):
                self.assertEqual(refused(self, Bare, Joined, rows).at, at)

    def test_letters_of_no_scale(self):
        # No scale is asked where rows are joined by hand.
        self.assertEqual(Joined(["xyz", "-q-"]).counts(), [[("x", 1)], [("q", 1), ("y", 1)], [("z", 1)]])


class RowByRow(unittest.TestCase):
    def test_between_two_rows(self):
        for seed, (many, columns) in enumerate(itertools.product((1, 2, 5, 8), (0, 1, 6, 60))):
            rows = joined_drawn(seed, many, columns, gaps=3)
            joined = Joined(rows)
            for at, to in itertools.product(range(many), repeat=2):
                expected = ""
                for one, other in zip(rows[at], rows[to]):
                    if one != "-" or other != "-":
                        expected += "b" if "-" not in (one, other) else "o" if other == "-" else "u"
                self.assertEqual(joined.between(at, to), expected)
                if at == to:
                    self.assertEqual(expected, "b" * len(joined.row_of(at)))
            self.assertEqual(joined.rows(), rows)

    def test_between_by_hand(self):
        joined = Joined(["ab--c", "-bb-a", "---a-"])
        self.assertEqual(joined.between(0, 1), "obub")
        self.assertEqual(joined.between(1, 0), "ubob")
        self.assertEqual(joined.between(0, 2), "oouo")
        self.assertEqual(joined.between(2, 2), "b")

    def test_without_a_row(self):
        for seed, (many, columns) in enumerate(itertools.product((2, 3, 8), (0, 1, 6, 60))):
            for gaps in (1, 9):
                rows = joined_drawn(seed, many, columns, gaps=gaps)
                joined = Joined(rows)
                for at in range(many):
                    rest = rows[:at] + rows[at + 1:]
                    told = joined.without(at)
                    self.assertEqual(told.rows(), without_bare(rest))
                    self.assertEqual([told.row_of(place) for place in range(many - 1)],
                                     [row.replace("-", "") for row in rest])
                    self.assertEqual(joined.rows(), rows)

    def test_without_by_hand(self):
        joined = Joined(["a-b-", "-ab-", "---c"])
        self.assertEqual(joined.without(0).rows(), ["ab-", "--c"])
        self.assertEqual(joined.without(1).rows(), ["ab-", "--c"])
        self.assertEqual(joined.without(2).rows(), ["a-b", "-ab"])
        self.assertEqual(joined.without(2).without(0).rows(), ["ab"])
        self.assertEqual(Joined(["ab", "--"]).without(0).rows(), [""])
        self.assertEqual(Joined(["--", "ab", "--"]).without(1).rows(), ["", ""])
        self.assertEqual(joined.rows(), ["a-b-", "-ab-", "---c"])

    def test_rows_that_there_are_not(self):
        for many in (1, 2, 8):
            rows = joined_drawn(many, many, 4)
            joined = Joined(rows)
            for at in (many, many + 1, 8, 9, 10 ** 300):
                if at >= many:
                    for call in (joined.row_of, joined.without):
                        self.assertEqual(refused(self, NoRow, call, at).at, at)
                    self.assertEqual(refused(self, NoRow, joined.between, at, 0).at, at)
                    self.assertEqual(refused(self, NoRow, joined.between, 0, at).at, at)
                    self.assertEqual(refused(self, NoRow, joined.between, at, at + 1).at, at)
                    self.assertEqual(refused(self, NoRow, joined.between, at + 1, at).at, at + 1)
            self.assertEqual(joined.rows(), rows)

    def test_the_only_row(self):
        for row in ("", "a", "abc" * 20):
            joined = Joined([row])
            refused(self, Alone, joined.without, 0)
            self.assertEqual(refused(self, NoRow, joined.without, 1).at, 1)
            self.assertEqual(joined.rows(), [row])


class TheFieldOfTwo(unittest.TestCase):
    def test_against_the_words(self):
        for seed, (many, more) in enumerate(itertools.product(range(1, 9), (1, 2, 5, 8))):
            for columns, others, gaps in ((5, 4, 2), (0, 3, 1), (3, 0, 1), (9, 9, 0)):
                over = joined_drawn(seed, many, columns, gaps=gaps)
                under = joined_drawn(seed + 7, more, others, gaps=gaps)
                for scale in (SCALE, FLAT, SCALE.turned(), GREAT):
                    field = Joined(over).field_with(Joined(under), scale)
                    self.assertEqual(told_by(field), parts_by_the_words(over, under, scale))

    def test_sixty_columns_in_good_time(self):
        over, under = joined_drawn(1, 8, 60, "abcdefgh", 1), joined_drawn(2, 8, 60, "abcdefgh", 0)
        began = time.process_time()
        field = Joined(over).field_with(Joined(under), GREAT)
        self.assertLess(time.process_time() - began, 5)
        self.assertEqual(told_by(field), parts_by_the_words(over, under, GREAT))

    def test_of_two_single_rows(self):
        for seed, (high, wide) in enumerate([(0, 0), (0, 4), (4, 0), (5, 7), (40, 40), (1, 40)]):
            over, under = row_of(seed, high), row_of(seed + 5, wide)
            for scale in (SCALE, FLAT):
                field = Joined([over]).field_with(Joined([under]), scale)
                self.assertEqual(told_by(field), told_by(field_of(over, under, scale)))

    def test_by_hand(self):
        field = Joined(["ab", "a-"]).field_with(Joined(["-c", "ac", "a-"]), SCALE)
        # a a with - a a: four times 5, less 1 times 2 times 1; with c c -: four times -3, less 2 times 1.
        # b - with - a a: twice -4, less 1 times 1 and 1 times 2; with c c -: twice -4, less 1 and 2.
        self.assertEqual(told_by(field), ([[20 - 2, -12 - 2], [-8 - 3, -8 - 3]], [6, 3], [4, 4], 2 * 2 * 3))

    def test_strange_letters(self):
        for over, under, letter in [(["axb", "yab"], ["z"], "x"), (["ab-", "-aq"], ["zab"], "q"),
                                    (["ab"], ["a-", "-z"], "z"), (["ab"], ["az", "y-"], "z"),
                                    (["--", "zx"], ["ab"], "z"), ([""], ["x"], "x"),
                                    (["abz", "y--"], ["abc"], "z")]:
            for call in (Joined(over).field_with, Joined(over).joined_with):
                self.assertEqual(refused(self, NoLetter, call, Joined(under), SCALE).letter, letter)


class JoinedWith(unittest.TestCase):
    def assert_joined(self, over, under, scale):
        """They are joined by the path that Bounds tells of the field by the words; each keeps whole."""
        pairs, over_prices, under_prices, opening = parts_by_the_words(over, under, scale)
        path = Bounds(Field(pairs, over_prices, under_prices, opening=opening)).path()
        one, other = Joined(over), Joined(under)
        if len(path) > 60:
            self.assertEqual(refused(self, TooLong, one.joined_with, other, scale).most, 60)
        else:
            joined = one.joined_with(other, scale)
            rows = joined.rows()
            self.assertEqual(rows, laid(over, under, path))
            self.assertEqual((joined.many(), joined.columns()), (len(over) + len(under), len(path)))
            self.assertEqual([row.replace("-", "") for row in rows], [row.replace("-", "") for row in over + under])
            self.assertEqual(without_bare(rows[:len(over)]), over)
            self.assertEqual(without_bare(rows[len(over):]), under)
            self.assertTrue(all(any(sign != "-" for sign in signs) for signs in zip(*rows)))
        self.assertEqual((one.rows(), other.rows()), (over, under))
        return path

    def test_small_ones_by_all_paths(self):
        several = 0
        for seed, (columns, others) in enumerate(itertools.product(range(5), repeat=2)):
            for many, more in ((1, 1), (2, 1), (2, 3), (4, 4)):
                over, under = joined_drawn(seed, many, columns), joined_drawn(seed + 9, more, others)
                for scale in (SCALE, FLAT):
                    parts = parts_by_the_words(over, under, scale)
                    best = best_paths(parts, (False,) * 4)
                    self.assertEqual(self.assert_joined(over, under, scale), best[0])
                    several += len(best) > 1
        self.assertGreater(several, 20)

    def test_great_ones(self):
        for seed, (columns, others) in enumerate([(60, 60), (40, 40), (60, 1), (1, 60), (60, 0), (0, 60), (35, 50)]):
            for many, more in ((1, 1), (7, 1), (1, 7), (4, 4), (3, 2)):
                for scale in (SCALE, FLAT):
                    self.assert_joined(joined_drawn(seed, many, columns), joined_drawn(seed + 9, more, others, gaps=0),
                                       scale)

    def test_by_hand(self):
        scale = Scale("abc", [[5, -4, -4], [-4, 5, -4], [-4, -4, 5]], opening=2, each=1)
        joined = Joined(["abcab"]).joined_with(Joined(["acb"]), scale)
        self.assertEqual(joined.rows(), ["abcab", "a-c-b"])
        self.assertEqual(joined.joined_with(Joined(["bb"]), scale).rows(), ["abcab", "a-c-b", "-b--b"])
        self.assertEqual(Joined(["bb"]).joined_with(joined, scale).rows(), ["-b--b", "abcab", "a-c-b"])
        self.assertEqual(Joined([""]).joined_with(Joined([""]), scale).rows(), ["", ""])
        self.assertEqual(Joined([""]).joined_with(Joined(["ab", "-b"]), scale).rows(), ["--", "ab", "-b"])

    def test_the_ends_are_whole(self):
        # With ends that cost nothing one row would slide off the other one.
        scale = Scale("ab", [[1, -1], [-1, 1]], opening=9, each=9)
        self.assertEqual(Joined(["aaab"]).joined_with(Joined(["baaa"]), scale).rows(), ["aaab", "baaa"])

    def test_one_with_itself(self):
        for rows in (["ab-c", "abc-"], ["abc"], [""], ["a--", "-b-", "--c"]):
            joined = Joined(rows)
            told = joined.joined_with(joined, SCALE)
            self.assertEqual(told.rows(), laid(rows, rows, Bounds(joined.field_with(joined, SCALE)).path()))
            self.assertEqual(joined.rows(), rows)
            again = told.joined_with(told, SCALE) if told.many() <= 4 else told
            self.assertEqual(without_bare(again.rows()[:told.many()]), told.rows())

    def test_more_than_eight_rows(self):
        for many, more in [(8, 1), (1, 8), (5, 4), (8, 8), (2, 7)]:
            for letter in "ax":
                # Ahead of strange letters and of too many columns.
                one, other = Joined([letter * 60] * many), Joined(["b" * 60] * more)
                self.assertEqual(refused(self, TooMany, one.joined_with, other, SCALE).most, 8)
                self.assertEqual((one.many(), other.many()), (many, more))
        self.assertEqual(Joined(["a"] * 4).joined_with(Joined(["a"] * 4), SCALE).rows(), ["a"] * 8)
        self.assertEqual(Joined(["a"] * 7).joined_with(Joined(["a"]), SCALE).many(), 8)

    def test_more_than_sixty_columns(self):
        apart = Scale("ab", [[5, -9], [-9, 5]], opening=0, each=1)
        self.assertEqual(Joined(["a" * 30]).joined_with(Joined(["b" * 30]), apart).rows(),
                         ["a" * 30 + "-" * 30, "-" * 30 + "b" * 30])
        for many, more in [(31, 30), (30, 31), (60, 60), (60, 1), (1, 60), (40, 40)]:
            one, other = Joined(["a" * many]), Joined(["b" * more])
            self.assertEqual(refused(self, TooLong, one.joined_with, other, apart).most, 60)
            self.assertEqual((one.rows(), other.rows()), (["a" * many], ["b" * more]))
            # Strange letters go ahead of it.
            strange = Joined(["b" * (more - 1) + "c"])
            self.assertEqual(refused(self, NoLetter, one.joined_with, strange, apart).letter, "c")
        self.assertEqual(Joined(["a" * 60]).joined_with(Joined(["a" * 60]), apart).columns(), 60)

    def test_what_was_joined_taken_out_again(self):
        for seed in range(12):
            over, row = joined_drawn(seed, 1 + seed % 5, 3 + seed % 7), row_of(seed + 3, seed % 9)
            for scale in (SCALE, FLAT):
                joined = Joined(over).joined_with(Joined([row]), scale)
                self.assertEqual(joined.without(len(over)).rows(), over)
                self.assertEqual(joined.row_of(len(over)), row)
                joined = Joined([row]).joined_with(Joined(over), scale)
                self.assertEqual(joined.without(0).rows(), over)
                for at in range(len(over)):
                    rest = joined.rows()[:at + 1] + joined.rows()[at + 2:]
                    self.assertEqual(joined.without(at + 1).rows(), without_bare(rest))


class JoinedAll(unittest.TestCase):
    def test_one_behind_another(self):
        for seed, many in enumerate([1, 2, 3, 4, 5, 6, 7, 8] * 3):
            lengths = drawn(seed, many, 0, 9)
            rows = [row_of(seed + 31 * at, length) for at, length in enumerate(lengths)]
            for scale in (SCALE, FLAT, SCALE.turned()):
                told = joined_all(rows, scale)
                expected = Joined([rows[0]])
                for row in rows[1:]:
                    expected = expected.joined_with(Joined([row]), scale)
                self.assertEqual(told.rows(), expected.rows())
                self.assertEqual([told.row_of(at) for at in range(many)], rows)

    def test_by_hand(self):
        scale = Scale("abc", [[5, -4, -4], [-4, 5, -4], [-4, -4, 5]], opening=2, each=1)
        self.assertEqual(joined_all(["abcab", "acb", "bb"], scale).rows(), ["abcab", "a-c-b", "-b--b"])
        self.assertEqual(joined_all(["abcab"], scale).rows(), ["abcab"])
        self.assertEqual(joined_all([""], scale).rows(), [""])
        self.assertEqual(joined_all(["", "ab", ""], scale).rows(), ["--", "ab", "--"])
        self.assertEqual(joined_all([""] * 8, scale).rows(), [""] * 8)
        self.assertEqual(joined_all(["a" * 40] * 8, scale).rows(), ["a" * 40] * 8)

    def test_strange_letters_go_ahead(self):
        apart = Scale("ab", [[5, -9], [-9, 5]], opening=0, each=1)
        for rows, letter in [(["x"], "x"), (["ab", "ay", "x"], "y"), (["ab", "ba", "zx"], "z"),
                             (["a" * 40, "b" * 40, "c"], "c"),
                             (["a" * 40, "b" * 40, "", "aq"], "q"), (["x", "y"], "x"), (["", "yx"], "y")]:
            self.assertEqual(refused(self, NoLetter, joined_all, rows, apart).letter, letter)

    def test_more_than_sixty_columns(self):
        apart = Scale("abc", [[5, -9, -9], [-9, 5, -9], [-9, -9, 5]], opening=0, each=1)
        for rows in (["a" * 40, "b" * 21], ["a" * 20, "b" * 20, "c" * 21], ["a" * 30, "b" * 30, "c"],
                     ["a" * 30, "", "b" * 30, "", "c", "a"]):
            self.assertEqual(refused(self, TooLong, joined_all, rows, apart).most, 60)
        self.assertEqual(joined_all(["a" * 40, "b" * 20], apart).columns(), 60)
        self.assertEqual(joined_all(["a" * 20, "b" * 20, "c" * 20, "a" * 20], apart).columns(), 60)

    def test_in_good_time(self):
        began = time.process_time()
        dear = Scale("abc", [[5, -4, -3], [-4, 5, -4], [-2, -4, 5]], opening=20, each=5)
        joined_all([row_of(seed, 40) for seed in range(8)], dear)
        self.assertLess(time.process_time() - began, 10)


class WhoseListsTheyAre(unittest.TestCase):
    def test_lists_that_are_handed_in(self):
        rows = list(MANY_ROWS)
        joined = Joined(rows)
        self.assertEqual(rows, MANY_ROWS)
        rows[0] = "zzzz"
        rows.pop()
        self.assertEqual(joined.rows(), MANY_ROWS)
        rows = ["ab", "b"]
        joined = joined_all(rows, SCALE)
        self.assertEqual(rows, ["ab", "b"])
        rows.clear()
        self.assertEqual([joined.row_of(0), joined.row_of(1)], ["ab", "b"])

    def test_told_lists_are_the_askers_own(self):
        joined = Joined(MANY_ROWS)
        counts = [list(column) for column in joined.counts()]
        one, other = joined.rows(), joined.rows()
        self.assertIsNot(one, other)
        one.clear()
        other[0] = "x"
        self.assertEqual(joined.rows(), MANY_ROWS)
        one, other = joined.counts(), joined.counts()
        lists = [id(part) for told in (one, other) for part in [told, *told]]
        self.assertEqual(len(set(lists)), len(lists))
        one[0].clear()
        other.reverse()
        self.assertEqual(joined.counts(), counts)
        self.assertEqual((joined.rows(), joined.columns(), joined.many()), (MANY_ROWS, 4, 8))

    def test_columns_that_are_alike_are_told_in_lists_of_their_own(self):
        counts = Joined(["aaa", "bbb"]).counts()
        counts[0].append(3)
        self.assertEqual(counts[1:], [[("a", 1), ("b", 1)]] * 2)

    def test_two_by_turns_asked_in_any_order(self):
        one, other = Joined(["ab-", "-bc"]), Joined(["ca", "-a"])
        asks = [one.rows, other.counts, lambda: one.between(0, 1), lambda: other.without(0).rows(),
                lambda: one.joined_with(other, SCALE).rows(), lambda: told_by(other.field_with(one, FLAT))]
        expected = [ask() for ask in asks]
        for order in itertools.permutations(range(6)):
            for which in order:
                self.assertEqual(asks[which](), expected[which])


class WhatIsNotAsTold(unittest.TestCase):
    def test_what_joined_ones_are_made_of(self):
        assert_wrong(self, Joined, [["ab", "-a"]], [bad_joined()])
        # Ahead of unlike lengths, and of columns without a letter.
        for rows in (["a", "ab", "A"], ["-", "-", 1], ["a" * 61, "a"], ["-"] * 9, ["a", "ab"] * 5):
            assert_wrong(self, Joined, [["ab"]], [[rows]])
        for rows in (["a" * 60], ["a" * 60] * 8, ["a"], [""] * 8):
            self.assertEqual(Joined(rows).rows(), rows)

    def test_places(self):
        for rows in (["ab", "-a"], ["a"], [""]):
            joined = Joined(rows)
            for at in (0, 8):
                assert_wrong(self, joined.row_of, [at], [bad_places()])
                assert_wrong(self, joined.without, [at], [bad_places()])
                assert_wrong(self, joined.between, [at, 9 - at], [bad_places(), bad_places()])
            self.assertEqual(joined.rows(), rows)

    def test_others_and_scales(self):
        for rows, others in ((["ab", "-a"], ["a"]), (["x"], ["y"]), (["a"] * 8, ["x" * 60])):
            joined, other = Joined(rows), Joined(others)
            for call in (joined.field_with, joined.joined_with):
                assert_wrong(self, call, [other, SCALE], [no_joined(), no_scales()])
            self.assertEqual((joined.rows(), other.rows()), (rows, others))

    def test_all(self):
        for rows in (["ab", "a"], ["x"], ["a" * 40, "x" * 40]):
            assert_wrong(self, joined_all, [rows, SCALE], [bad_lists_of_rows(), no_scales()])


if __name__ == "__main__":
    unittest.main()
