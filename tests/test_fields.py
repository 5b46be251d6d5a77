"""Points 3, 4, 15 and 16 of the document: fields."""

import itertools
import unittest

from laybeside import fields
from laybeside.errors import NoLetter, NoPlace
from laybeside.fields import Field, field_of
from laybeside.scales import Scale
from tests.helper import (SMALL, assert_wrong, bad_great_prices, bad_places, bad_rows, drawn, field_from, knot,
                          no_objects, parts_of, refused, shape, strangers, told_by)

SIZES = [(0, 0), (0, 1), (1, 0), (0, 7), (7, 0), (0, 60), (60, 0), (1, 1), (1, 2), (2, 1), (3, 5), (5, 3), (4, 4),
         (1, 60), (60, 1), (59, 60), (60, 59), (60, 60)]


def turned_parts(parts):
    """The parts with the places over as places under and the other way about."""
    pairs, over, under, opening = parts
    return [[pairs[at][to] for at in range(len(over))] for to in range(len(under))], under, over, opening


class WhatAFieldTells(unittest.TestCase):
    def test_the_most(self):
        self.assertEqual(fields.MOST, 60)

    def test_each_pair_and_price(self):
        for seed, (high, wide) in enumerate(SIZES):
            for most in (5, 10 ** 12):
                with self.subTest(high=high, wide=wide, most=most):
                    parts = parts_of(seed, high, wide, -most, most, most, most)
                    field = field_from(parts)
                    self.assertEqual((field.high(), field.wide()), (high, wide))
                    self.assertEqual(told_by(field), parts)

    def test_the_opening_price_if_none_is_told(self):
        self.assertEqual(Field([[4]], [2], [3]).opening(), 0)
        self.assertEqual(Field([], [], []).opening(), 0)
        self.assertEqual(Field([[4]], [2], [3]).turned().opening(), 0)

    def test_opening_prices(self):
        for opening in (0, 1, 3, 10 ** 6 + 1, 10 ** 12 - 1, 10 ** 12):
            with self.subTest(opening=opening):
                field = Field([[4, 5]], [2], [3, 6], opening=opening)
                self.assertEqual(told_by(field), ([[4, 5]], [2], [3, 6], opening))
                self.assertEqual(field.turned().opening(), opening)

    def test_opening_is_handed_in_by_name_alone(self):
        with self.assertRaises(TypeError):
            Field([[4]], [2], [3], 1)

    def test_numbers_at_the_bounds(self):
        for worth in (-(10 ** 12), -(10 ** 12) + 1, -1, 0, 1, 10 ** 12 - 1, 10 ** 12):
            price = abs(worth)
            field = Field([[worth, 0], [1, worth]], [price, 0], [7, price], opening=price)
            self.assertEqual(told_by(field), ([[worth, 0], [1, worth]], [price, 0], [7, price], price))

    def test_none_over(self):
        for wide in (0, 1, 2, 59, 60):
            field = Field([], [], list(range(wide)), opening=2)
            self.assertEqual((field.high(), field.wide(), field.opening()), (0, wide, 2))
            self.assertEqual([field.under_price(to) for to in range(wide)], list(range(wide)))
            self.assertEqual(refused(self, NoPlace, field.over_price, 0).at, 0)
            self.assertEqual(refused(self, NoPlace, field.pair, 0, 0).at, 0)

    def test_none_under(self):
        for high in (1, 2, 59, 60):
            field = Field([[] for _ in range(high)], list(range(high)), [], opening=2)
            self.assertEqual((field.high(), field.wide(), field.opening()), (high, 0, 2))
            self.assertEqual([field.over_price(at) for at in range(high)], list(range(high)))
            self.assertEqual(refused(self, NoPlace, field.under_price, 0).at, 0)
            self.assertEqual(refused(self, NoPlace, field.pair, high - 1, 5).at, 5)


class PlacesThatThereAreNot(unittest.TestCase):
    def test_pairs(self):
        for high, wide in SIZES:
            field = field_from(parts_of(3, high, wide))
            for at, to in itertools.product((0, high - 1, high, high + 1, 99), (0, wide - 1, wide, wide + 2, 98)):
                if at >= 0 and to >= 0 and (at >= high or to >= wide):
                    with self.subTest(high=high, wide=wide, at=at, to=to):
                        expected = at if at >= high else to
                        self.assertEqual(refused(self, NoPlace, field.pair, at, to).at, expected)

    def test_the_first_of_two(self):
        field = field_from(parts_of(3, 4, 6))
        self.assertEqual(refused(self, NoPlace, field.pair, 4, 6).at, 4)
        self.assertEqual(refused(self, NoPlace, field.pair, 7, 9).at, 7)
        self.assertEqual(refused(self, NoPlace, field.pair, 3, 6).at, 6)
        self.assertEqual(refused(self, NoPlace, field.pair, 5, 5).at, 5)
        self.assertEqual(refused(self, NoPlace, field.pair, 10 ** 300, 10 ** 200).at, 10 ** 300)
        self.assertEqual(refused(self, NoPlace, field.pair, 0, 10 ** 200).at, 10 ** 200)

    def test_prices(self):
        for high, wide in SIZES:
            field = field_from(parts_of(3, high, wide))
            for over in (0, 1, 60, 10 ** 300):
                self.assertEqual(refused(self, NoPlace, field.over_price, high + over).at, high + over)
                self.assertEqual(refused(self, NoPlace, field.under_price, wide + over).at, wide + over)

    def test_the_field_stays(self):
        field = field_from(parts_of(3, 4, 6))
        for call in (field.over_price, field.under_price):
            refused(self, NoPlace, call, 6)
        refused(self, NoPlace, field.pair, 4, 4)
        self.assertEqual(told_by(field), parts_of(3, 4, 6))


class Turned(unittest.TestCase):
    def test_once_and_twice(self):
        for seed, (high, wide) in enumerate(SIZES):
            with self.subTest(high=high, wide=wide):
                parts = parts_of(seed, high, wide, -9, 9, 8, 7)
                field = field_from(parts)
                turned = field.turned()
                self.assertIs(type(turned), Field)
                self.assertEqual((turned.high(), turned.wide()), (wide, high))
                self.assertEqual(told_by(turned), turned_parts(parts))
                self.assertEqual(told_by(turned.turned()), parts)
                self.assertEqual(told_by(turned.turned().turned()), turned_parts(parts))
                self.assertEqual(told_by(field), parts)

    def test_a_turned_one_refuses_by_its_own_size(self):
        turned = field_from(parts_of(3, 2, 5)).turned()
        self.assertEqual(refused(self, NoPlace, turned.pair, 5, 2).at, 5)
        self.assertEqual(refused(self, NoPlace, turned.pair, 4, 2).at, 2)
        self.assertEqual(refused(self, NoPlace, turned.over_price, 5).at, 5)
        self.assertEqual(refused(self, NoPlace, turned.under_price, 2).at, 2)
        assert_wrong(self, turned.pair, [0, 0], [bad_places(), bad_places()])


class WhoseListsTheyAre(unittest.TestCase):
    def test_changing_what_was_handed_in(self):
        changes = [
            lambda pairs, over, under: pairs.clear(), lambda pairs, over, under: pairs[0].clear(),
            lambda pairs, over, under: pairs[1].__setitem__(1, 99), lambda pairs, over, under: pairs.reverse(),
            lambda pairs, over, under: pairs[2].append(7), lambda pairs, over, under: over.clear(),
            lambda pairs, over, under: over.__setitem__(0, 99), lambda pairs, over, under: under.clear(),
            lambda pairs, over, under: under.__setitem__(3, None), lambda pairs, over, under: under.append(1),
        ]
        for number, change in enumerate(changes):
            with self.subTest(number=number):
                parts = parts_of(number, 3, 4)
                field = field_from(parts)
                turned = field.turned()
                change(*parts[:3])
                self.assertEqual(told_by(field), parts_of(number, 3, 4))
                self.assertEqual(told_by(turned), turned_parts(parts_of(number, 3, 4)))
                self.assertEqual(told_by(field.turned()), told_by(turned))
                self.assertEqual((field.high(), field.wide()), (3, 4))

    def test_what_is_handed_in_stays(self):
        parts = parts_of(3, 3, 4)
        ahead = shape(parts)
        field = field_from(parts)
        told_by(field)
        field.turned()
        self.assertEqual((shape(parts), parts), (ahead, parts_of(3, 3, 4)))

    def test_one_list_handed_in_several_times(self):
        line = [1, 2, 3]
        field = Field([line, line, line], line, line)
        line[1] = 77
        self.assertEqual(told_by(field), ([[1, 2, 3]] * 3, [1, 2, 3], [1, 2, 3], 0))
        empty = []
        field = Field(empty, empty, empty)
        empty.append(3)
        self.assertEqual(told_by(field), ([], [], [], 0))

    def test_two_fields_know_nothing_of_one_another(self):
        pairs, over, under = [[1, 2], [3, 4]], [5, 6], [7, 8]
        one = Field(pairs, over, under, opening=9)
        pairs[0][0] = 10
        over[1] = 60
        other = Field(pairs, over, under)
        under.pop()
        self.assertEqual(told_by(one), ([[1, 2], [3, 4]], [5, 6], [7, 8], 9))
        self.assertEqual(told_by(other), ([[10, 2], [3, 4]], [5, 60], [7, 8], 0))


# What isn't as told at each place of a field of two places over and three under.
BAD_PAIRS = [thing for thing in strangers() if thing not in ([], [[1, 2], [3, 4]])] + [
    True, False, 0, 2, "", "ab", (), ((1, 2, 3), (4, 5, 6)), [(1, 2, 3), (4, 5, 6)], ([1, 2, 3], [4, 5, 6]),
    [[1, 2, 3], [4, 5]], [[1, 2], [3, 4, 5]], [[1, 2, 3], []], [[], [1, 2, 3]], [[1, 2, 3], None], [None, [1, 2, 3]],
    [[1, 2, 3], (4, 5, 6)], [[1, 2, 3], 4], [[1, 2, 3], "abc"], [["a", "b", "c"], [1, 2, 3]], {0: [1, 2, 3]},
    [[1, 2, 3], {4: 4, 5: 5, 6: 6}], [[1, 2, 3], [4, 5, True]], [[False, 2, 3], [4, 5, 6]], [[1, 2, 3], [4, None, 6]],
    [[1, 2, 3], [4, [5], 6]], [[1, 2, 10 ** 12 + 1], [4, 5, 6]], [[1, 2, 3], [-(10 ** 12) - 1, 5, 6]],
    [[1, 2, 3], [4, 5, 10 ** 300]], [[1, 2, 3], [4, 5, "6"]], [[1, 2, 3], [4, 5, (6,)]],
    [[0]] * 61, [[]] * 61, [[0] * 61], [[0] * 61] * 2, [[0] * 60] * 61, [[0] * 61] * 60, [[1, 2, 3], knot()],
]
PAIRS = [[1, 2, 3], [4, 5, 6]]


def bad_prices(many):
    """Things that are no lists of so many great prices."""
    told = [thing for thing in strangers() if thing not in ([], [0], [1])]
    told += [True, False, 0, many, "", "a" * many, (1,) * many, [1] * (many + 1), {at: 1 for at in range(many)}]
    told += [[1] * (many - 1)] if many else []
    for thing in bad_great_prices():
        told += [[0] * at + [thing] + [5] * (many - at - 1) for at in range(many)]
    return told


class WhatAFieldIsMadeOf(unittest.TestCase):
    def test_each_thing(self):
        for over in (1, 2, 3):
            for under in (1, 2, 4):
                right = [[[5] * under for _ in range(over)], [1] * over, [2] * under, 3]
                wrong = [BAD_PAIRS, bad_prices(over), bad_prices(under), bad_great_prices()]
                assert_wrong(self, Field, right, wrong, ["opening"])

    def test_without_an_opening_price(self):
        assert_wrong(self, Field, [PAIRS, [1, 2], [1, 2, 3]], [BAD_PAIRS, bad_prices(2), bad_prices(3)])

    def test_each_pair(self):
        things = strangers() + [True, False, "", "1", (), (1,), 10 ** 12 + 1, -(10 ** 12) - 1, 10 ** 300]
        for thing in things:
            pairs = []
            for at, to in itertools.product(range(3), range(4)):
                pairs.append([[1, 2, 3, 4], [5, 6, 7, 8], [9, 1, 2, 3]])
                pairs[-1][at][to] = thing
            assert_wrong(self, Field, [None, [1] * 3, [1] * 4], [pairs, [], []])

    def test_as_many_prices_as_there_are_places(self):
        sizes = (0, 1, 2, 3, 59, 60, 61)
        for high, wide, over, under in itertools.product(sizes, repeat=4):
            if high <= 60 and wide <= 60:
                parts = [[0] * wide for _ in range(high)], [1] * over, [2] * under, 0
                fitting = under <= 60 if high == 0 else under == wide
                if over == high and fitting:
                    self.assertEqual(told_by(field_from(parts)), parts)
                else:
                    case = [[0] * wide for _ in range(high)], [1] * over, [2] * under
                    assert_wrong(self, Field, [None, *case[1:]], [[None], [], []])
                    at = 1 if over != high else 2
                    assert_wrong(self, Field, case, [[]] * at + [[case[at]]] + [[]] * (2 - at))

    def test_none_of_either(self):
        wrong = [[[[]] * 61, None, (), 0], bad_prices(0), [[1] * 61, [-1], [True], (), None, {}, 0], bad_great_prices()]
        assert_wrong(self, Field, [[], [], [], 0], wrong, ["opening"])
        wrong = [[[[]] * 61, [[], [1]], [[], ()]], bad_prices(2), bad_prices(0), bad_great_prices()]
        assert_wrong(self, Field, [[[], []], [1, 2], [], 0], wrong, ["opening"])

    def test_too_many_places(self):
        line = [0] * 61
        assert_wrong(self, Field, [[line], [1], [1] * 61], [[[line], [line] * 2], [], []])
        assert_wrong(self, Field, [[[0]] * 61, [1] * 61, [1]], [[[[0]] * 61], [], []])
        assert_wrong(self, Field, [[], [], [1] * 61], [[], [], [[1] * 61, [1] * 62, [1] * 1000]])


class WhatAFieldIsAsked(unittest.TestCase):
    def setUp(self):
        self.field = field_from(parts_of(3, 2, 3))

    def tearDown(self):
        self.assertEqual(told_by(self.field), parts_of(3, 2, 3))

    def test_places_not_as_told(self):
        for at, to in itertools.product((0, 1, 2, 60, 10 ** 300), (0, 2, 3, 60, 10 ** 300)):
            assert_wrong(self, self.field.pair, [at, to], [bad_places(), bad_places()])
        assert_wrong(self, self.field.over_price, [0], [bad_places()])
        assert_wrong(self, self.field.under_price, [0], [bad_places()])


def odd_scale(letters, **prices):
    """A scale whose worths aren't alike either way about."""
    many = len(letters)
    return Scale(letters, [[7 * at - 3 * to for to in range(many)] for at in range(many)], **prices)


class TheFieldOfTwoRows(unittest.TestCase):
    def assert_field(self, over, under, scale):
        field = field_of(over, under, scale)
        self.assertIs(type(field), Field)
        self.assertEqual((field.high(), field.wide()), (len(over), len(under)))
        pairs = [[scale.worth_of(one, other) for other in under] for one in over]
        expected = pairs, [scale.each()] * len(over), [scale.each()] * len(under), scale.opening()
        self.assertEqual(told_by(field), expected)

    def test_rows_of_all_lengths(self):
        letters = "dbac"
        row = "".join(letters[at] for at in drawn(1, 40, 0, 3))
        scale = odd_scale(letters, opening=5, each=2)
        for high in range(41):
            for wide in {0, 1, 2, 3, 17, 39, 40, high}:
                with self.subTest(high=high, wide=wide):
                    self.assert_field(row[:high], row[::-1][:wide], scale)

    def test_the_over_rows_letter_goes_first(self):
        scale = Scale("ab", [[1, 2], [3, 4]], opening=5, each=6)
        self.assertEqual(told_by(field_of("ab", "bba", scale)), ([[2, 2, 1], [4, 4, 3]], [6, 6], [6, 6, 6], 5))
        self.assertEqual(told_by(field_of("b", "a", scale)), ([[3]], [6], [6], 5))

    def test_scales(self):
        for letters in ("a", "z", "ba", "cab", "hbdfaceg"):
            for prices in ({}, {"opening": 0}, {"each": 0}, {"opening": 10 ** 6, "each": 10 ** 6}):
                with self.subTest(letters=letters, prices=prices):
                    self.assert_field(letters, letters[::-1] * 2, odd_scale(letters, **prices))

    def test_greatest_worths(self):
        scale = Scale("ab", [[10 ** 6, -(10 ** 6)], [0, 10 ** 6]])
        self.assert_field("ab", "ba", scale)

    def test_turned_it_is_the_field_of_the_rows_the_other_way_about(self):
        scale = odd_scale("abc", opening=4, each=7)
        one = field_of("abcab", "cb", scale).turned()
        self.assertEqual(told_by(one), told_by(field_of("cb", "abcab", scale.turned())))

    def test_rows_without_letters(self):
        scale = odd_scale("abc", opening=4, each=7)
        self.assertEqual(told_by(field_of("", "", scale)), ([], [], [], 4))
        self.assertEqual(told_by(field_of("", "abc", scale)), ([], [], [7, 7, 7], 4))
        self.assertEqual(told_by(field_of("abc", "", scale)), ([[], [], []], [7, 7, 7], [], 4))

    def test_letters_that_are_not_the_scales(self):
        scale = odd_scale("dbf")
        for letter in SMALL:
            for over, under in ((letter, ""), ("", letter), ("dbf" + letter, "dbf"), ("dbf", "fd" + letter + "x"),
                                ("b" * 39 + letter, "a"), ("f" * 40, "b" * 39 + letter)):
                strange = [one for one in over + under if one not in "dbf"]
                with self.subTest(over=over, under=under):
                    if strange:
                        self.assertEqual(refused(self, NoLetter, field_of, over, under, scale).letter, strange[0])
                    else:
                        self.assert_field(over, under, scale)

    def test_the_first_strange_letter(self):
        scale = odd_scale("ab")
        for over, under, letter in [("axb", "y", "x"), ("abz", "y", "z"), ("ab", "bay", "y"), ("xy", "zz", "x"),
                                    ("", "abyx", "y"), ("yx", "", "y"), ("bac", "cab", "c"), ("a", "dc", "d")]:
            with self.subTest(over=over, under=under):
                self.assertEqual(refused(self, NoLetter, field_of, over, under, scale).letter, letter)

    def test_what_is_not_as_told(self):
        scale = odd_scale("ab")
        scales = no_objects() + [Scale, Field([], [], [])]
        for over, under in (("a", "b"), ("x", "b"), ("a", "y"), ("x", "y"), ("", "")):
            assert_wrong(self, field_of, [over, under, scale], [bad_rows(), bad_rows(), scales])
        self.assertEqual((scale.letters(), scale.worths()), ("ab", odd_scale("ab").worths()))

    def test_the_scale_stays_and_does_not_hang_on_the_field(self):
        worths = [[1, 2], [3, 4]]
        scale = Scale("ab", worths)
        field = field_of("ab", "ab", scale)
        worths[0][0] = 99
        scale.worths()[1][1] = 99
        self.assertEqual(told_by(field), ([[1, 2], [3, 4]], [1, 1], [1, 1], 3))
        self.assertEqual(scale.worths(), [[1, 2], [3, 4]])


if __name__ == "__main__":
    unittest.main()
