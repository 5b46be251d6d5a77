"""Points 3, 4, 6, 10 and 39 to 41 of the document: sheets."""

import itertools
import time
import unittest

from laybeside.bounds import Bounds
from laybeside.errors import LayError, NoLetter, NoPlace, TooLong
from laybeside.fields import Field, field_of
from laybeside.scales import Scale
from laybeside.sheets import Sheet
from tests.helper import (assert_wrong, bad_filled_rows, bad_letters, bad_places, bad_rows, bad_sides, bad_steps,
                          bad_takes, best_paths, drawn, no_objects, reckoned, refused, row_of, told_by)

SCALE = Scale("abc", [[5, -4, -3], [-4, 5, -4], [-2, -4, 5]], opening=2, each=1)
# Many paths are worth as much by this one.
FLAT = Scale("abc", [[1, 0, 0], [0, 1, 0], [0, 0, 1]], opening=0, each=0)
SIDES = ("over", "under")
WHOLE_ENDS = (False,) * 4


class Plain:
    """Two rows by their sides, changed by the words of point 40 alone."""

    def __init__(self, over, under, scale):
        self.rows = {"over": over, "under": under}
        self.scale = scale

    def due(self, word, side, at, more):
        """The refusal that is due, and what it keeps; None where there is none."""
        row = self.rows[side]
        strange = [letter for letter in more if letter not in self.scale.letters()] if word != "take" else []
        if word == "put" and at > len(row):
            return NoPlace, at
        if word == "put" and len(row) + len(more) > 40:
            return TooLong, 40
        if word == "take" and at + more > len(row):
            return NoPlace, at
        if word == "turn" and at >= len(row):
            return NoPlace, at
        return (NoLetter, strange[0]) if strange else None

    def do(self, word, side, at, more):
        """Do a deed; told is what the sheet must tell."""
        letters = list(self.rows[side])
        if word == "put":
            letters[at:at] = list(more)
            told = at + len(more)
        elif word == "take":
            del letters[at:at + more]
            told = at
        else:
            letters[at] = more
            told = at + 1
        self.rows[side] = "".join(letters)
        return told


def kept_by(refusal):
    """What a refusal keeps."""
    return next(iter(vars(refusal).values()))


def table_of(sheet):
    """All bounds of a sheet."""
    high, wide = len(sheet.row("over")), len(sheet.row("under"))
    return [[tuple(sheet.bound(at, to, step) for step in "bou") for to in range(wide + 1)] for at in range(high + 1)]


def lines_of(table, side):
    """The lines of a side."""
    return table if side == "over" else [list(line) for line in zip(*table)]


def deeds_drawn(seed, many, longest=9):
    """Deeds, some of which are refused, always the same ones for a seed."""
    numbers = iter(drawn(seed, 6 * many, 0, 10 ** 6))
    for _ in range(many):
        word = ("put", "put", "take", "turn")[next(numbers) % 4]
        side = SIDES[next(numbers) % 2]
        at = next(numbers) % (longest + 2)
        number, letters = next(numbers), row_of(next(numbers), 1 + next(numbers) % 4, "abcabcabcabcx")
        yield word, side, at, {"put": letters, "take": 1 + number % 4, "turn": letters[:1]}[word]


class AsAfresh(unittest.TestCase):
    def assert_afresh(self, sheet, over, under, scale):
        """It tells all that a field of these rows tells."""
        bounds = Bounds(field_of(over, under, scale))
        self.assertEqual((sheet.row("over"), sheet.row("under")), (over, under))
        self.assertEqual((sheet.worth(), sheet.path()), (bounds.worth(), bounds.path()))
        self.assertEqual(table_of(sheet), bounds.table())

    def do(self, sheet, plain, deed):
        """Do a deed, or see that it is refused as it is due, and changes nothing."""
        due = plain.due(*deed)
        word, *handed = deed
        if due:
            rows = dict(plain.rows)
            self.assertEqual(kept_by(refused(self, due[0], getattr(sheet, word), *handed)), due[1])
            self.assertEqual({side: sheet.row(side) for side in SIDES}, rows)
        else:
            self.assertEqual(getattr(sheet, word)(*handed), plain.do(*deed))


class WhatASheetTells(AsAfresh):
    def test_rows_of_all_lengths(self):
        for seed, (high, wide) in enumerate([(0, 0), (0, 1), (1, 0), (0, 40), (40, 0), (1, 40), (40, 40), (7, 9)]):
            for scale in (SCALE, FLAT):
                over, under = row_of(seed, high), row_of(seed + 9, wide)
                self.assert_afresh(Sheet(over, under, scale), over, under, scale)

    def test_against_all_paths(self):
        for seed, (high, wide) in enumerate(itertools.product(range(5), range(4))):
            for scale in (SCALE, FLAT):
                over, under = row_of(seed, high), row_of(seed + 9, wide)
                parts = told_by(field_of(over, under, scale))
                best = best_paths(parts, WHOLE_ENDS)[0]
                sheet = Sheet(over, under, scale)
                self.assertEqual((sheet.worth(), sheet.path()), (reckoned(parts, best), best))

    def test_by_hand(self):
        sheet = Sheet("abcab", "acb", Scale("abc", [[5, -4, -4], [-4, 5, -4], [-4, -4, 5]], opening=2, each=1))
        self.assertEqual((sheet.worth(), sheet.path()), (9, "bobob"))
        self.assertEqual(sheet.take("over", 3, 1), 3)
        self.assertEqual((sheet.row("over"), sheet.worth(), sheet.path()), ("abcb", 12, "bobb"))
        self.assertEqual(sheet.put("under", 1, "b"), 2)
        self.assertEqual((sheet.row("under"), sheet.worth(), sheet.path()), ("abcb", 20, "bbbb"))
        self.assertEqual(sheet.turn("under", 3, "c"), 4)
        self.assertEqual((sheet.row("under"), sheet.worth(), sheet.path()), ("abcc", 11, "bbbb"))

    def test_the_kinds_of_what_is_told(self):
        sheet = Sheet("ab", "b", SCALE)
        for told, kind in [(sheet.row("over"), str), (sheet.path(), str), (sheet.worth(), int),
                           (sheet.bound(0, 0, "b"), int), (sheet.put("over", 0, "a"), int),
                           (sheet.take("over", 0, 1), int), (sheet.turn("over", 0, "b"), int)]:
            self.assertIs(type(told), kind)
        self.assertIs(type(sheet.copied()), Sheet)


class Deeds(AsAfresh):
    def test_put_at_each_place(self):
        for row, letters in itertools.product(("", "a", "abca"), ("b", "cab", "bb")):
            for side, at in itertools.product(SIDES, range(len(row) + 1)):
                for over, under in ((row, "cab"), (row, row)):
                    plain = Plain(over, under, SCALE)
                    sheet = Sheet(over, under, SCALE)
                    if at <= len(plain.rows[side]):
                        self.do(sheet, plain, ("put", side, at, letters))
                        self.assert_afresh(sheet, plain.rows["over"], plain.rows["under"], SCALE)

    def test_put_where_there_is_no_such_place(self):
        for row in ("", "a", "abca", "a" * 40):
            for at in (len(row) + 1, len(row) + 2, 41, 60, 10 ** 300):
                for letters in ("a", "x", "a" * 40, "x" * 40):
                    for side in SIDES:
                        sheet = Sheet(row, row, SCALE)
                        self.assertEqual(refused(self, NoPlace, sheet.put, side, at, letters).at, at)
                        self.assert_afresh(sheet, row, row, SCALE)

    def test_put_up_to_forty_letters_and_beyond(self):
        for many, letters in [(0, "a" * 40), (1, "abc" * 13), (39, "b"), (20, "c" * 20)]:
            row = row_of(many, many)
            for side in SIDES:
                sheet = Sheet(row, row, SCALE)
                self.assertEqual(sheet.put(side, many, letters), 40)
                self.assertEqual(sheet.row(side), row + letters)
        for many, letters in [(1, "a" * 40), (40, "a"), (40, "x"), (39, "bx"), (21, "x" * 20), (38, "cab"),
                              (40, "ab" * 20)]:
            row = row_of(many, many)
            for side, at in itertools.product(SIDES, (0, many // 2, many)):
                sheet = Sheet(row, row, SCALE)
                self.assertEqual(refused(self, TooLong, sheet.put, side, at, letters).most, 40)
                self.assert_afresh(sheet, row, row, SCALE)

    def test_put_strange_letters(self):
        for row, letters, letter in [("ab", "x", "x"), ("", "axby", "x"), ("ab" * 18, "aazd", "z"), ("a", "dx", "d")]:
            for side, at in itertools.product(SIDES, (0, len(row))):
                sheet = Sheet(row, "ab", SCALE) if side == "over" else Sheet("ab", row, SCALE)
                self.assertEqual(refused(self, NoLetter, sheet.put, side, at, letters).letter, letter)
                self.assertEqual(sheet.row(side), row)

    def test_take_at_each_place(self):
        row = "abcacb"
        for side, at, many in itertools.product(SIDES, range(9), range(1, 9)):
            plain = Plain(row, row, SCALE)
            sheet = Sheet(row, row, SCALE)
            self.do(sheet, plain, ("take", side, at, many))
            self.assert_afresh(sheet, plain.rows["over"], plain.rows["under"], SCALE)
            self.assertEqual(len(sheet.row(side)), 6 - many if at + many <= 6 else 6)

    def test_take_more_than_stand_there(self):
        for row in ("", "a", "abca", "b" * 40):
            for at, many in [(0, len(row) + 1), (1, len(row)), (len(row), 1), (len(row) + 1, 1), (39, 2), (40, 1),
                             (10 ** 300, 40), (2, 40)]:
                if 1 <= many <= 40:
                    for side in SIDES:
                        sheet = Sheet(row, row, SCALE)
                        self.assertEqual(refused(self, NoPlace, sheet.take, side, at, many).at, at)
                        self.assert_afresh(sheet, row, row, SCALE)

    def test_take_all(self):
        for many in (1, 5, 40):
            for side in SIDES:
                sheet = Sheet("a" * many, "a" * many, SCALE)
                self.assertEqual(sheet.take(side, 0, many), 0)
                self.assert_afresh(sheet, *("", "a" * many)[::1 if side == "over" else -1], SCALE)

    def test_turn_at_each_place(self):
        row = "abca"
        for side, at, letter in itertools.product(SIDES, (0, 1, 2, 3, 4, 5, 40, 10 ** 300), "abcdx"):
            plain = Plain(row, row, SCALE)
            sheet = Sheet(row, row, SCALE)
            self.do(sheet, plain, ("turn", side, at, letter))
            self.assert_afresh(sheet, plain.rows["over"], plain.rows["under"], SCALE)
        sheet = Sheet("", "", SCALE)
        for side, letter in itertools.product(SIDES, "ax"):
            self.assertEqual(refused(self, NoPlace, sheet.turn, side, 0, letter).at, 0)

    def test_turn_into_the_very_letter(self):
        sheet = Sheet("abc", "cab", SCALE)
        for side, at in itertools.product(SIDES, range(3)):
            ahead = table_of(sheet)
            self.assertEqual(sheet.turn(side, at, sheet.row(side)[at]), at + 1)
            self.assertEqual(table_of(sheet), ahead)
            self.assert_afresh(sheet, "abc", "cab", SCALE)

    def test_a_letter_of_the_other_side_is_let_be(self):
        sheet = Sheet("aaa", "aaa", SCALE)
        sheet.turn("over", 1, "b")
        self.assertEqual((sheet.row("over"), sheet.row("under")), ("aba", "aaa"))
        sheet.put("under", 3, "c")
        self.assertEqual((sheet.row("over"), sheet.row("under")), ("aba", "aaac"))
        sheet.take("over", 0, 2)
        self.assertEqual((sheet.row("over"), sheet.row("under")), ("a", "aaac"))


class ManyDeeds(AsAfresh):
    def test_asked_behind_each(self):
        for seed in range(4):
            plain = Plain("ab", "cabac", SCALE)
            sheet = Sheet("ab", "cabac", SCALE)
            for deed in deeds_drawn(seed, 60):
                self.do(sheet, plain, deed)
                self.assert_afresh(sheet, plain.rows["over"], plain.rows["under"], SCALE)

    def test_asked_now_and_then(self):
        for seed, scale in itertools.product(range(20, 26), (SCALE, FLAT)):
            plain = Plain(row_of(seed, 5), row_of(seed + 1, 6), scale)
            sheet = Sheet(plain.rows["over"], plain.rows["under"], scale)
            asks = drawn(seed, 120, 0, 9)
            for deed, ask in zip(deeds_drawn(seed, 120, 40), asks):
                self.do(sheet, plain, deed)
                bounds = Bounds(field_of(plain.rows["over"], plain.rows["under"], scale)) if ask < 4 else None
                if ask == 0:
                    self.assertEqual(sheet.path(), bounds.path())
                elif ask == 1:
                    self.assertEqual(sheet.worth(), bounds.worth())
                elif ask == 2:
                    self.assertEqual(sheet.bound(0, len(plain.rows["under"]), "u"),
                                     bounds.bound(0, len(plain.rows["under"]), "u"))
                elif ask == 3:
                    self.assertEqual(table_of(sheet), bounds.table())
            self.assert_afresh(sheet, plain.rows["over"], plain.rows["under"], scale)

    def test_deeds_of_one_side(self):
        for side in SIDES:
            plain = Plain("abc", "cab", SCALE)
            sheet = Sheet("abc", "cab", SCALE)
            for seed in range(150):
                for word, _, at, more in deeds_drawn(seed, 1, 12):
                    self.do(sheet, plain, (word, side, at, more))
                if seed % 30 == 29:
                    self.assert_afresh(sheet, plain.rows["over"], plain.rows["under"], SCALE)

    def test_from_nothing_to_forty_and_back(self):
        for side in SIDES:
            plain = Plain("", row_of(1, 40), SCALE) if side == "over" else Plain(row_of(1, 40), "", SCALE)
            sheet = Sheet(plain.rows["over"], plain.rows["under"], SCALE)
            for at in drawn(5, 40, 0, 0) + list(range(40)):
                word = ("put", side, min(at, len(plain.rows[side])), "abc"[at % 3])
                self.do(sheet, plain, word)
            self.assertEqual(len(sheet.row(side)), 40)
            self.assert_afresh(sheet, plain.rows["over"], plain.rows["under"], SCALE)
            for at in range(39, -1, -1):
                self.do(sheet, plain, ("take", side, at // 2, 1))
            self.assertEqual(sheet.row(side), "")
            self.assert_afresh(sheet, plain.rows["over"], plain.rows["under"], SCALE)

    def test_many_deeds_in_good_time(self):
        began = time.process_time()
        sheet = Sheet("a" * 40, "b" * 40, SCALE)
        for at in range(4000):
            sheet.turn("over", at % 40, "abc"[at % 3])
            if at % 100 == 0:
                sheet.path()
        self.assertLess(time.process_time() - began, 20)


class TheToldLines(AsAfresh):
    def assert_lines(self, sheet, deed):
        """A deed is told as it must be, and the lines behind the told ones are as they were."""
        word, side, at, more = deed
        ahead = lines_of(table_of(sheet), side)
        told = getattr(sheet, word)(side, at, more)
        behind = lines_of(table_of(sheet), side)
        moved = {"put": len(str(more)), "take": -more if word == "take" else 0, "turn": 0}[word]
        self.assertEqual(told, {"put": at + moved, "take": at, "turn": at + 1}[word])
        self.assertEqual(behind[told:], ahead[told - moved:])
        self.assertEqual(len(behind), len(ahead) + moved)

    def test_each_deed_at_each_place(self):
        for side in SIDES:
            deeds = [("put", side, at, letters) for at in range(6) for letters in ("a", "bc", "cabc")]
            deeds += [("take", side, at, many) for at in range(5) for many in range(1, 6 - at)]
            deeds += [("turn", side, at, letter) for at in range(5) for letter in "abc"]
            for deed in deeds:
                with self.subTest(deed=deed):
                    self.assert_lines(Sheet("abcab", "cabba", SCALE), deed)

    def test_one_behind_another(self):
        for seed in range(4):
            plain = Plain("abcba", "bca", SCALE)
            sheet = Sheet("abcba", "bca", SCALE)
            for deed in deeds_drawn(seed + 70, 80):
                if plain.due(*deed) is None:
                    self.assert_lines(sheet, deed)
                    plain.do(*deed)

    def test_great_rows(self):
        for side in SIDES:
            sheet = Sheet(row_of(1, 30), row_of(2, 30), SCALE)
            for deed in [("put", side, 30, "abcabcabca"), ("take", side, 0, 10), ("put", side, 0, "ccc"),
                         ("turn", side, 0, "b"), ("turn", side, 32, "b"), ("take", side, 32, 1),
                         ("take", side, 15, 10)]:
                self.assert_lines(sheet, deed)


class Copied(AsAfresh):
    def test_each_goes_on_by_itself(self):
        for asked in (False, True):
            sheet = Sheet("abca", "cab", SCALE)
            sheet.turn("over", 1, "c")
            if asked:
                sheet.path()
            copied = sheet.copied()
            self.assert_afresh(copied, "acca", "cab", SCALE)
            self.assertIsNot(copied, sheet)
            copied.put("over", 0, "bb")
            self.assert_afresh(sheet, "acca", "cab", SCALE)
            sheet.take("under", 0, 3)
            self.assert_afresh(copied, "bbacca", "cab", SCALE)
            again = copied.copied().copied()
            again.turn("under", 2, "a")
            copied.take("over", 0, 6)
            self.assert_afresh(again, "bbacca", "caa", SCALE)
            self.assert_afresh(copied, "", "cab", SCALE)
            self.assert_afresh(sheet, "acca", "", SCALE)

    def test_two_sheets_know_nothing_of_one_another(self):
        one, other = Sheet("ab", "ba", SCALE), Sheet("ab", "ba", FLAT)
        plain, plain_other = Plain("ab", "ba", SCALE), Plain("ab", "ba", FLAT)
        for deed, deed_other in zip(deeds_drawn(1, 40), deeds_drawn(2, 40)):
            self.do(one, plain, deed)
            self.do(other, plain_other, deed_other)
            self.assert_afresh(one, plain.rows["over"], plain.rows["under"], SCALE)
            self.assert_afresh(other, plain_other.rows["over"], plain_other.rows["under"], FLAT)

    def test_the_same_is_told_again(self):
        sheet = Sheet("abca", "cab", SCALE)
        asks = [sheet.worth, sheet.path, lambda: sheet.row("over"), lambda: table_of(sheet),
                lambda: sheet.copied().path()]
        expected = [ask() for ask in asks]
        for order in itertools.permutations(range(5)):
            for which in order:
                self.assertEqual(asks[which](), expected[which])


class WhatIsRefused(AsAfresh):
    def test_strange_letters_where_it_is_made(self):
        for over, under, letter in [("axb", "y", "x"), ("abz", "y", "z"), ("ab", "bay", "y"), ("xy", "zz", "x"),
                                    ("", "abyx", "y"), ("yx", "", "y"), ("a" * 39 + "d", "e", "d")]:
            self.assertEqual(refused(self, NoLetter, Sheet, over, under, SCALE).letter, letter)

    def test_cells_beside_the_field(self):
        sheet = Sheet("abca", "cab", SCALE)
        for _ in range(2):
            for at, to, place in [(5, 0, 5), (0, 4, 4), (5, 4, 5), (7, 9, 7), (4, 4, 4), (10 ** 300, 0, 10 ** 300)]:
                for step in "bou":
                    self.assertEqual(refused(self, NoPlace, sheet.bound, at, to, step).at, place)
            # Behind a deed other cells are there.
            sheet.put("over", 0, "a")
            self.assertEqual(sheet.bound(5, 3, "b"), 0)
            self.assertEqual(refused(self, NoPlace, sheet.bound, 6, 0, "b").at, 6)
            sheet.take("over", 0, 1)

    def test_a_refused_deed_changes_nothing(self):
        for asked in (False, True):
            sheet = Sheet("abca", "c" * 40, SCALE)
            sheet.turn("under", 0, "a")
            if asked:
                sheet.worth()
            for call in (lambda: sheet.put("over", 5, "a"), lambda: sheet.put("under", 0, "a"),
                         lambda: sheet.put("over", 0, "ad"), lambda: sheet.take("over", 3, 2),
                         lambda: sheet.turn("over", 4, "a"), lambda: sheet.turn("over", 0, "d"),
                         lambda: sheet.put("over", 0, ""), lambda: sheet.take("over", 0, 0),
                         lambda: sheet.turn("side", 0, "a"), lambda: sheet.turn("over", 0, "ab"),
                         lambda: sheet.bound(0, 50, "b"), lambda: sheet.row("up")):
                with self.assertRaises(LayError):
                    call()
                self.assert_afresh(sheet, "abca", "a" + "c" * 39, SCALE)

    def test_what_a_sheet_is_made_of(self):
        for over, under in (("a", "b"), ("x", "b"), ("a", "y"), ("", "")):
            assert_wrong(self, Sheet, [over, under, SCALE], [bad_rows(), bad_rows(), no_objects() + [Scale, Field]])

    def test_what_a_sheet_is_asked(self):
        sheet = Sheet("ab", "ba", SCALE)
        assert_wrong(self, sheet.row, ["over"], [bad_sides()])
        for at, to in ((0, 0), (7, 9)):
            assert_wrong(self, sheet.bound, [at, to, "b"], [bad_places(), bad_places(), bad_steps()])
        self.assert_afresh(sheet, "ab", "ba", SCALE)

    def test_deeds(self):
        sheet = Sheet("ab", "ba", SCALE)
        for side, at, letters in [("over", 0, "a"), ("under", 3, "x"), ("over", 0, "a" * 40)]:
            assert_wrong(self, sheet.put, [side, at, letters], [bad_sides(), bad_places(), bad_filled_rows()])
        for side, at, many in [("over", 0, 1), ("under", 3, 40)]:
            assert_wrong(self, sheet.take, [side, at, many], [bad_sides(), bad_places(), bad_takes()])
        for side, at, letter in [("over", 0, "a"), ("under", 2, "x")]:
            assert_wrong(self, sheet.turn, [side, at, letter], [bad_sides(), bad_places(), bad_letters()])
        self.assert_afresh(sheet, "ab", "ba", SCALE)


if __name__ == "__main__":
    unittest.main()
