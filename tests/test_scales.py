"""Points 3, 4, 13 and 14 of the document: scales."""

import itertools
import unittest

from laybeside import scales
from laybeside.errors import NoLetter, Wrong
from laybeside.scales import EACH, OPENING, Scale
from tests.helper import SIGNS, SMALL, bad_rows, refused, shape, strangers

# Letters in and out of the order of the letters, one to eight of them.
LETTERS = ["a", "z", "ab", "ba", "cab", "xay", "dbca", "zyxwv", "qazwsx", "gfedcba", "hbdfaceg", "abcdefgh"]


def worths_for(letters):
    """Worths no two of which are alike, some of them below 0."""
    many = len(letters)
    return [[many * at + to - 5 for to in range(many)] for at in range(many)]


def told(scale):
    """All that a scale tells of itself."""
    return scale.letters(), scale.worths(), scale.opening(), scale.each()


def swapped(letters, worths):
    """The worths of a scale that is turned, pair by pair."""
    return [[worths[letters.index(other)][letters.index(one)] for other in letters] for one in letters]


class WhatAScaleTells(unittest.TestCase):
    def test_letters_and_worths(self):
        for letters in LETTERS:
            with self.subTest(letters=letters):
                scale = Scale(letters, worths_for(letters))
                self.assertEqual(scale.letters(), letters)
                self.assertEqual(scale.worths(), worths_for(letters))
                self.assertIs(type(scale.worths()), list)
                self.assertEqual([type(line) for line in scale.worths()], [list] * len(letters))

    def test_two_letters_in_each_order(self):
        for letters in itertools.permutations("ace", 2):
            scale = Scale("".join(letters), [[1, 2], [3, 4]])
            self.assertEqual(told(scale), ("".join(letters), [[1, 2], [3, 4]], 3, 1))

    def test_the_prices_if_none_are_told(self):
        self.assertEqual((OPENING, EACH), (3, 1))
        self.assertEqual((scales.OPENING, scales.EACH), (3, 1))
        scale = Scale("ab", [[5, -4], [-4, 5]])
        self.assertEqual((scale.opening(), scale.each()), (3, 1))

    def test_one_price_told(self):
        for price in (0, 1, 2, 3, 7, 10 ** 6):
            with self.subTest(price=price):
                scale = Scale("ab", [[5, -4], [-4, 5]], opening=price)
                self.assertEqual((scale.opening(), scale.each()), (price, 1))
                scale = Scale("ab", [[5, -4], [-4, 5]], each=price)
                self.assertEqual((scale.opening(), scale.each()), (3, price))

    def test_both_prices_told(self):
        for opening, each in itertools.product((0, 1, 3, 8, 10 ** 6 - 1, 10 ** 6), repeat=2):
            with self.subTest(opening=opening, each=each):
                scale = Scale("ab", [[5, -4], [-4, 5]], opening=opening, each=each)
                self.assertEqual((scale.opening(), scale.each()), (opening, each))
                scale = Scale("ab", [[5, -4], [-4, 5]], each=each, opening=opening)
                self.assertEqual((scale.opening(), scale.each()), (opening, each))

    def test_prices_are_handed_in_by_name_alone(self):
        for prices in ((3,), (3, 1)):
            with self.subTest(prices=prices), self.assertRaises(TypeError):
                Scale("a", [[1]], *prices)

    def test_worths_at_the_bounds(self):
        for worth in (-(10 ** 6), -(10 ** 6) + 1, -1, 0, 1, 10 ** 6 - 1, 10 ** 6):
            with self.subTest(worth=worth):
                scale = Scale("ba", [[0, worth], [7, worth]])
                self.assertEqual(scale.worths(), [[0, worth], [7, worth]])
                self.assertEqual(scale.worth_of("b", "a"), worth)
                self.assertEqual(Scale("q", [[worth]]).worth_of("q", "q"), worth)


class TheWorthOfTwoLetters(unittest.TestCase):
    def test_the_over_rows_letter_goes_first(self):
        scale = Scale("ab", [[1, 2], [3, 4]])
        self.assertEqual(scale.worth_of("a", "a"), 1)
        self.assertEqual(scale.worth_of("a", "b"), 2)
        self.assertEqual(scale.worth_of("b", "a"), 3)
        self.assertEqual(scale.worth_of("b", "b"), 4)

    def test_each_two(self):
        for letters in LETTERS:
            worths = worths_for(letters)
            scale = Scale(letters, worths)
            for at, to in itertools.product(range(len(letters)), repeat=2):
                with self.subTest(letters=letters, at=at, to=to):
                    self.assertEqual(scale.worth_of(letters[at], letters[to]), worths[at][to])

    def test_a_letter_that_is_not_its_own(self):
        for letters in LETTERS:
            scale = Scale(letters, worths_for(letters))
            for one, other in itertools.product(SMALL, repeat=2):
                foreign = [letter for letter in (one, other) if letter not in letters]
                if foreign:
                    with self.subTest(letters=letters, one=one, other=other):
                        self.assertEqual(refused(self, NoLetter, scale.worth_of, one, other).letter, foreign[0])

    def test_the_first_of_two_that_are_not_its_own(self):
        scale = Scale("ab", [[1, 2], [3, 4]])
        self.assertEqual(refused(self, NoLetter, scale.worth_of, "x", "c").letter, "x")
        self.assertEqual(refused(self, NoLetter, scale.worth_of, "c", "x").letter, "c")
        self.assertEqual(refused(self, NoLetter, scale.worth_of, "a", "x").letter, "x")
        self.assertEqual(refused(self, NoLetter, scale.worth_of, "x", "a").letter, "x")


class WhetherItKnowsARow(unittest.TestCase):
    def test_rows_of_its_own_letters(self):
        for letters in LETTERS:
            scale = Scale(letters, worths_for(letters))
            rows = ["", letters, letters[::-1], (letters * 40)[:40], letters[-1] * 40, *letters]
            for row in rows:
                with self.subTest(letters=letters, row=row):
                    self.assertIs(scale.knows(row), True)

    def test_each_letter(self):
        for letters in LETTERS:
            scale = Scale(letters, worths_for(letters))
            for letter in SMALL:
                with self.subTest(letters=letters, letter=letter):
                    self.assertIs(scale.knows(letter), letter in letters)

    def test_rows_with_one_other_letter(self):
        scale = Scale("dbf", worths_for("dbf"))
        for length, letter in itertools.product((1, 2, 3, 39, 40), "aceghz"):
            for at in sorted({0, length // 2, length - 1}):
                with self.subTest(length=length, letter=letter, at=at):
                    row = "d" * at + letter + "b" * (length - at - 1)
                    self.assertIs(scale.knows(row), False)

    def test_rows_of_other_letters_alone(self):
        self.assertIs(Scale("ab", [[1, 2], [3, 4]]).knows("xyz"), False)
        self.assertIs(Scale("hbdfaceg", worths_for("hbdfaceg")).knows("i"), False)


class Turned(unittest.TestCase):
    def test_the_worths_change_places(self):
        turned = Scale("ba", [[1, 2], [3, 4]], opening=7, each=9).turned()
        self.assertIs(type(turned), Scale)
        self.assertEqual(told(turned), ("ba", [[1, 3], [2, 4]], 7, 9))
        self.assertEqual((turned.worth_of("b", "a"), turned.worth_of("a", "b")), (3, 2))

    def test_each_two_letters(self):
        for letters in LETTERS:
            with self.subTest(letters=letters):
                scale = Scale(letters, worths_for(letters))
                turned = scale.turned()
                self.assertEqual(told(turned), (letters, swapped(letters, worths_for(letters)), 3, 1))
                for one, other in itertools.product(letters, repeat=2):
                    self.assertEqual(turned.worth_of(one, other), scale.worth_of(other, one))

    def test_the_prices_stay(self):
        for opening, each in itertools.product((0, 1, 3, 8, 10 ** 6), repeat=2):
            with self.subTest(opening=opening, each=each):
                turned = Scale("ab", [[1, 2], [3, 4]], opening=opening, each=each).turned()
                self.assertEqual((turned.opening(), turned.each()), (opening, each))
                self.assertEqual((turned.turned().opening(), turned.turned().each()), (opening, each))

    def test_twice(self):
        for letters in LETTERS:
            with self.subTest(letters=letters):
                scale = Scale(letters, worths_for(letters), opening=2, each=6)
                self.assertEqual(told(scale.turned().turned()), told(scale))
                self.assertEqual(told(scale.turned().turned().turned()), told(scale.turned()))

    def test_the_first_one_stays(self):
        scale = Scale("bca", worths_for("bca"), opening=2, each=6)
        ahead = told(scale)
        turned = scale.turned()
        turned.worths()[0][1] = 99
        turned.turned()
        self.assertEqual(told(scale), ahead)
        self.assertEqual(scale.worth_of("b", "c"), worths_for("bca")[0][1])
        self.assertIsNot(turned, scale)

    def test_a_turned_one_refuses_too(self):
        turned = Scale("ab", [[1, 2], [3, 4]]).turned()
        self.assertEqual(refused(self, NoLetter, turned.worth_of, "x", "c").letter, "x")
        self.assertEqual(refused(self, Wrong, turned.worth_of, "x", "C").at, 1)
        self.assertIs(turned.knows("abba"), True)
        self.assertIs(turned.knows("abc"), False)


class WhoseListsTheyAre(unittest.TestCase):
    def test_what_is_handed_in_stays(self):
        worths = worths_for("dbca")
        ahead = shape(worths), worths_for("dbca")
        scale = Scale("dbca", worths)
        scale.worths()[0][0] = 99
        scale.worths().clear()
        scale.worth_of("d", "a")
        scale.turned().worths()[1][1] = 99
        scale.knows("abcd")
        self.assertEqual((shape(worths), worths), ahead)

    def test_changing_what_was_handed_in(self):
        for change in (lambda worths: worths.clear(), lambda worths: worths.append([1]),
                       lambda worths: worths.reverse(), lambda worths: worths[0].clear(),
                       lambda worths: worths[2].append(5), lambda worths: worths[1].reverse(),
                       lambda worths: worths[0].__setitem__(0, 99), lambda worths: worths[2].__setitem__(2, None),
                       lambda worths: worths.__setitem__(1, [0, 0, 0])):
            worths = worths_for("bca")
            scale = Scale("bca", worths)
            turned = scale.turned()
            change(worths)
            self.assertEqual(told(scale), ("bca", worths_for("bca"), 3, 1))
            self.assertEqual(told(turned), ("bca", swapped("bca", worths_for("bca")), 3, 1))
            self.assertEqual(told(scale.turned()), told(turned))
            for at, to in itertools.product(range(3), repeat=2):
                self.assertEqual(scale.worth_of("bca"[at], "bca"[to]), worths_for("bca")[at][to])

    def test_changing_what_was_told(self):
        for made in (Scale("bca", worths_for("bca")), Scale("bca", worths_for("bca")).turned()):
            ahead = told(made)
            one = made.worths()
            one[0][0] = 99
            one[1].append(7)
            one[2].clear()
            self.assertEqual(told(made), ahead)
            made.worths().clear()
            made.worths().append(3)
            self.assertEqual(told(made), ahead)
            self.assertEqual(made.worth_of("b", "b"), ahead[1][0][0])
            self.assertEqual(made.worth_of("a", "b"), ahead[1][2][0])

    def test_no_two_told_lists_are_one_list(self):
        worths = worths_for("bca")
        scale = Scale("bca", worths)
        turned = scale.turned()
        lists = [worths, *worths]
        for made in (scale, scale, turned, turned, turned.turned(), scale.turned()):
            lines = made.worths()
            lists += [lines, *lines]
        self.assertEqual(len({id(one) for one in lists}), len(lists))

    def test_one_list_handed_in_several_times(self):
        line = [1, 2, 3]
        scale = Scale("abc", [line, line, line])
        lines = scale.worths()
        lines[0][0] = 99
        self.assertEqual(lines, [[99, 2, 3], [1, 2, 3], [1, 2, 3]])
        self.assertEqual(line, [1, 2, 3])
        line[1] = 77
        self.assertEqual(scale.worths(), [[1, 2, 3]] * 3)
        self.assertEqual(scale.turned().worths(), [[1, 1, 1], [2, 2, 2], [3, 3, 3]])

    def test_two_scales_know_nothing_of_one_another(self):
        worths = [[1, 2], [3, 4]]
        one = Scale("ab", worths, opening=5)
        worths[0][1] = 20
        other = Scale("ba", worths, each=6)
        worths[1][0] = 30
        third = Scale("ac", worths)
        self.assertEqual(told(one), ("ab", [[1, 2], [3, 4]], 5, 1))
        self.assertEqual(told(other), ("ba", [[1, 20], [3, 4]], 3, 6))
        self.assertEqual(told(third), ("ac", [[1, 20], [30, 4]], 3, 1))
        self.assertEqual((one.knows("c"), other.knows("c"), third.knows("c")), (False, False, True))
        self.assertEqual((one.worth_of("a", "b"), other.worth_of("a", "b"), third.worth_of("a", "c")), (2, 3, 20))

    def test_asking_changes_nothing(self):
        scale = Scale("bca", worths_for("bca"), opening=2, each=6)
        ahead = told(scale)
        for _ in range(3):
            scale.worth_of("a", "c")
            scale.knows("abcabd")
            scale.turned()
            self.assertEqual(told(scale), ahead)


# What is handed in as not told, at each place of Scale with the letters "ab".
BAD_LETTERS = strangers() + [
    True, False, 0, 1, 5, -1, (), ("a", "b"), ["a", "b"], "", "aa", "bb", "aba", "abca", "abb", "aab", "abcdefga",
    "abcdefgg", "abcdefghi", "abcdefghijklmnopqrstuvwxyz", "A", "aB", "Ab", "a b", " ab", "ab ", "ab\n", "\nab",
    "a-", "-", "a1", "a,b", "`a", "a{", "a" * 8, "a" * 9, "a" * 1000,
]
BAD_WORTHS = strangers() + [
    True, False, 0, 4, -4, "", "ab", "[[1, 2], [3, 4]]", (), ([1, 2], [3, 4]), [(1, 2), (3, 4)],
    [[1, 2]], [[1, 2], [3, 4], [5, 6]], [[1, 2], []], [[], []], [[1], [2]], [[1, 2], [3]], [[1], [2, 3]],
    [[1, 2], [3, 4, 5]], [[1, 2, 3], [4, 5]], [[1, 2], [3, 4], []], [1, 2], [1, 2, 3, 4], ["ab", "ab"],
    [[1, 2], "ab"], [[1, 2], (3, 4)], [(1, 2), [3, 4]], [[1, 2], {0: 3, 1: 4}], [[1, 2], None], [None, [3, 4]],
    [[1, 2], 3], {0: [1, 2], 1: [3, 4]}, [{1: 2, 2: 3}, {3: 4, 4: 5}], [[[1, 2], [3, 4]]],
    [[[1], [2]], [[3], [4]]], [["1", "2"], ["3", "4"]], [[None, None], [None, None]], [b"ab", b"ab"],
]
NO_WORTHS = strangers() + [True, False, "", "1", (), (1,), 10 ** 6 + 1, -(10 ** 6) - 1, 10 ** 12, 10 ** 300]
BAD_PRICES = strangers() + [
    True, False, "", "1", "3", (), (1,), -1, -3, 10 ** 6 + 1, -(10 ** 6), 10 ** 12, 10 ** 300, -(10 ** 300),
]


class WhatAScaleIsMadeOf(unittest.TestCase):
    def assert_wrong(self, at, letters, worths, **prices):
        self.assertEqual(refused(self, Wrong, Scale, letters, worths, **prices).at, at)

    def test_letters_not_as_told(self):
        for at, letters in enumerate(BAD_LETTERS):
            for worths in ([[1, 2], [3, 4]], [[1]], [], [[0] * 9] * 9, None):
                with self.subTest(at=at, worths=worths):
                    self.assert_wrong(0, letters, worths)

    def test_letters_with_worths_of_their_number(self):
        for letters in ("aa", "aba", "abca", "aB", "a-b", "ab\n", "abcdefga", "abcdefghi", "A", "a" * 5):
            with self.subTest(letters=letters):
                self.assert_wrong(0, letters, worths_for(letters))
        self.assert_wrong(0, "", [])
        self.assert_wrong(0, ["a", "b"], [[1, 2], [3, 4]])
        self.assert_wrong(0, ("a", "b"), [[1, 2], [3, 4]])
        self.assert_wrong(0, {"a": 1, "b": 2}, [[1, 2], [3, 4]])

    def test_each_other_sign_among_the_letters(self):
        for sign in SIGNS:
            for at in range(3):
                letters = "bca"[:at] + sign + "bca"[at + 1:]
                with self.subTest(letters=letters):
                    if sign in SMALL and len(set(letters)) == 3:
                        self.assertEqual(Scale(letters, worths_for("bca")).letters(), letters)
                    else:
                        self.assert_wrong(0, letters, worths_for("bca"))

    def test_worths_not_as_told(self):
        for at, worths in enumerate(BAD_WORTHS):
            if worths != [[1, 2], [3, 4]]:
                with self.subTest(at=at):
                    self.assert_wrong(1, "ab", worths)

    def test_one_thing_that_is_no_worth(self):
        for number, thing in enumerate(NO_WORTHS):
            for at, to in itertools.product(range(3), repeat=2):
                worths = worths_for("bca")
                worths[at][to] = thing
                with self.subTest(number=number, at=at, to=to):
                    self.assert_wrong(1, "bca", worths)

    def test_one_line_that_is_none(self):
        others = strangers() + [True, 0, 3, "", "abc", (), (1, 2, 3), [1, 2], [1, 2, 3, 4]]
        for number, thing in enumerate(others):
            for at in range(3):
                worths = worths_for("bca")
                worths[at] = thing
                with self.subTest(number=number, at=at):
                    self.assert_wrong(1, "bca", worths)

    def test_worths_for_another_number_of_letters(self):
        for letters in LETTERS:
            for many in range(10):
                worths = [[0] * many for _ in range(many)]
                with self.subTest(letters=letters, many=many):
                    if many == len(letters):
                        self.assertEqual(Scale(letters, worths).worths(), worths)
                    else:
                        self.assert_wrong(1, letters, worths)

    def test_one_price_not_as_told(self):
        for at, price in enumerate(BAD_PRICES):
            with self.subTest(at=at):
                self.assert_wrong(2, "ab", [[1, 2], [3, 4]], opening=price)
                self.assert_wrong(3, "ab", [[1, 2], [3, 4]], each=price)
                self.assert_wrong(2, "ab", [[1, 2], [3, 4]], opening=price, each=1)
                self.assert_wrong(3, "ab", [[1, 2], [3, 4]], opening=3, each=price)

    def test_both_prices_not_as_told(self):
        for one, other in itertools.product((-1, True, None, "3", [3]), repeat=2):
            with self.subTest(one=one, other=other):
                self.assert_wrong(2, "ab", [[1, 2], [3, 4]], opening=one, each=other)
                self.assert_wrong(2, "ab", [[1, 2], [3, 4]], each=other, opening=one)

    def test_several_at_once(self):
        letters = [("ab", True), ("aa", False), (None, False), (7, False), (["a", "b"], False)]
        worths = [([[1, 2], [3, 4]], True), ([[1]], False), (None, False), ([[1, 2], [3, True]], False), (3, False)]
        prices = [(0, True), (-1, False), (False, False), ("1", False)]
        for row in itertools.product(letters, worths, prices, prices):
            things = [thing for thing, _ in row]
            right = [good for _, good in row]
            with self.subTest(things=things):
                if all(right):
                    Scale(things[0], things[1], opening=things[2], each=things[3])
                else:
                    self.assert_wrong(right.index(False), *things[:2], opening=things[2], each=things[3])

    def test_a_refused_one_leaves_others_as_they_were(self):
        worths = [[1, 2], [3, 4]]
        scale = Scale("ab", worths)
        self.assert_wrong(3, "cd", worths, opening=9, each=-1)
        self.assert_wrong(1, "abc", worths, opening=9, each=9)
        self.assertEqual(told(scale), ("ab", [[1, 2], [3, 4]], 3, 1))
        self.assertEqual(told(Scale("cd", worths)), ("cd", [[1, 2], [3, 4]], 3, 1))


BAD_ROWS = bad_rows()
BAD_ONES = BAD_ROWS + ["", "aa", "ab", "ba", "a" * 40]


class WhatAScaleIsAsked(unittest.TestCase):
    def setUp(self):
        self.scale = Scale("ab", [[1, 2], [3, 4]], opening=5, each=6)

    def tearDown(self):
        self.assertEqual(told(self.scale), ("ab", [[1, 2], [3, 4]], 5, 6))

    def test_a_first_letter_not_as_told(self):
        for at, one in enumerate(BAD_ONES):
            for other in ("a", "b", "x"):
                with self.subTest(at=at, other=other):
                    self.assertEqual(refused(self, Wrong, self.scale.worth_of, one, other).at, 0)

    def test_a_second_letter_not_as_told(self):
        for at, other in enumerate(BAD_ONES):
            # A letter that isn't the scale's is not refused ahead of a thing that isn't as told.
            for one in ("a", "b", "x"):
                with self.subTest(at=at, one=one):
                    self.assertEqual(refused(self, Wrong, self.scale.worth_of, one, other).at, 1)

    def test_both_letters_not_as_told(self):
        for (at, one), (to, other) in itertools.product(list(enumerate(BAD_ONES)), repeat=2):
            with self.subTest(at=at, to=to):
                self.assertEqual(refused(self, Wrong, self.scale.worth_of, one, other).at, 0)

    def test_a_row_not_as_told(self):
        for at, row in enumerate(BAD_ROWS):
            with self.subTest(at=at):
                self.assertEqual(refused(self, Wrong, self.scale.knows, row).at, 0)

    def test_a_row_with_another_sign_behind_a_letter_that_is_not_its_own(self):
        for row in ("x-", "xA", "xyz ", "x\n", "x" * 41):
            with self.subTest(row=row):
                self.assertEqual(refused(self, Wrong, self.scale.knows, row).at, 0)


if __name__ == "__main__":
    unittest.main()
