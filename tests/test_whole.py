"""Points 5 to 11 of the document, over the whole program."""

import itertools
import unittest

from laybeside.book import Book, come_up
from laybeside.bounds import Bounds, is_fair
from laybeside.cuts import cut_way
from laybeside.desk import Desk
from laybeside.errors import LayError
from laybeside.fields import field_of
from laybeside.joins import Joined, joined_all
from laybeside.paths import FREE, WHOLE, WITHIN, cells_of, path_between, worth_of_path
from laybeside.scales import Scale
from laybeside.sheets import Sheet
from laybeside.strips import strip_paper, strip_way
from laybeside.texts import read_laying, read_path, show_joined, show_path, show_scale
from laybeside.ways import Ways
from tests.helper import (PlainBook, all_paths, best_paths, deeds_for, drawn, parts_by_the_words, reckoned, row_of,
                          told_by, without_bare)

ENDS = list(itertools.product((False, True), repeat=4))
SCALES = [
    Scale("abc", [[5, -4, -3], [-4, 5, -4], [-2, -4, 5]], opening=2, each=1),
    # Many paths are worth as much by these.
    Scale("bca", [[1, 0, 0], [0, 1, 0], [0, 0, 1]], opening=0, each=0),
    Scale("cab", [[2, -2, -2], [-2, 2, -2], [-2, -2, 2]], opening=0, each=1),
    # Each gap, or each pair, is dear by these.
    Scale("abc", [[9, 1, 0], [2, 8, -1], [0, 3, 7]], opening=10 ** 6, each=10 ** 6),
    Scale("abc", [[-(10 ** 6)] * 3] * 3, opening=3, each=2),
]


def read_laid(answer):
    """The worth and the path that a desk answers first."""
    worth, path = answer.split(" ")[:2]
    return int(worth), read_path(path)


def told_in_each_way(over, under, scale):
    """The worth and the path of two rows, by all that tells them, the ends being whole."""
    field = field_of(over, under, scale)
    bounds, ways, sheet = Bounds(field), Ways(field), Sheet(over, under, scale)
    path = ways.path_at(0)
    one, other = Joined([over]), Joined([under])
    joined_bounds = Bounds(one.field_with(other, scale))
    book = Book(scale)
    desk = Desk(show_scale(scale))
    for deed in (("row", "one", over), ("row", "other", under)):
        book.do(deed)
    for row in (f"row one {over or '-'}", f"row other {under or '-'}"):
        desk.say(row)
    told = {
        "table": (bounds.worth(), bounds.path()), "cuts": cut_way(field)[:2],
        "ways": (worth_of_path(field, path), path), "sheet": (sheet.worth(), sheet.path()),
        "joined": (joined_bounds.worth(), joined_bounds.path()), "book": book.laying("one", "other"),
        "banded": book.banded("one", "other")[:2], "number": (bounds.worth(), book.path_at("one", "other", 0)),
        "tried": Book(scale).tried([("row", "x", over), ("row", "y", under)], "x", "y"),
        "desk": read_laid(desk.say("laying one other")), "desk's strip": read_laid(desk.say("strip one other")),
        "desk's path": (bounds.worth(), read_path(desk.say("path one other 0"))),
    }
    for breadth in (0, 1, 2, 5, 60):
        told[f"strip {breadth}"] = strip_way(field, breadth=breadth)[:2]
    if len(bounds.path()) <= 60:
        told["rows joined"] = bounds.worth(), path_between(*one.joined_with(other, scale).rows())
        told["all joined"] = bounds.worth(), joined_all([over, under], scale).between(0, 1)
        book.do(("join", "both", "one", "other"))
        told["book's rows"] = bounds.worth(), path_between(*book.rows_of("both"))
        desk.say("join both one other")
        told["desk's rows"] = bounds.worth(), read_laying(desk.say("rows both"))[2]
    return told


class OneWorthAndOnePath(unittest.TestCase):
    def test_short_rows_by_all_paths(self):
        several = 0
        for seed, (high, wide) in enumerate(itertools.product(range(5), range(5))):
            for number, scale in enumerate(SCALES):
                over, under = row_of(seed + number, high), row_of(seed + 50, wide)
                best = best_paths(told_by(field_of(over, under, scale)), WHOLE)
                expected = reckoned(told_by(field_of(over, under, scale)), best[0]), best[0]
                several += len(best) > 1
                for way, told in told_in_each_way(over, under, scale).items():
                    with self.subTest(over=over, under=under, scale=number, way=way):
                        self.assertEqual(told, expected)
        self.assertGreater(several, 20)

    def test_long_rows(self):
        for seed, (high, wide) in enumerate([(40, 40), (40, 0), (0, 40), (1, 40), (40, 1), (13, 29), (30, 30)]):
            for number, scale in enumerate(SCALES):
                over, under = row_of(seed + number, high), row_of(seed + 50, wide)
                told = told_in_each_way(over, under, scale)
                self.assertEqual(len(set(told.values())), 1, told)

    def test_all_ends(self):
        for seed, (high, wide) in enumerate([(0, 0), (1, 3), (3, 1), (4, 4), (3, 4), (0, 3), (3, 0)]):
            for number, scale in enumerate(SCALES):
                over, under = row_of(seed + number, high), row_of(seed + 50, wide)
                field = field_of(over, under, scale)
                book = Book(scale)
                book.do(("row", "a", over))
                book.do(("row", "b", under))
                for ends in ENDS:
                    best = best_paths(told_by(field), ends)
                    expected = reckoned(told_by(field), best[0], ends), best[0]
                    bounds = Bounds(field, ends=ends)
                    self.assertEqual((bounds.worth(), bounds.path()), expected)
                    self.assertEqual(cut_way(field, ends=ends)[:2], expected)
                    self.assertEqual(book.laying("a", "b", ends=ends), expected)
                    self.assertEqual(book.tried([("row", "c", "")], "a", "b", ends=ends), expected)
                    self.assertEqual(book.many("a", "b", ends=ends), len(best))
                    told = [book.path_at("a", "b", at, ends=ends) for at in range(len(best))]
                    self.assertEqual(told, best)
                    self.assertEqual([Ways(field, ends=ends).number_of(path) for path in best], list(range(len(best))))

    def test_desks_ends(self):
        for seed, scale in itertools.product(range(6), SCALES):
            over, under = row_of(seed, 2 + seed), row_of(seed + 9, 7 - seed)
            desk = Desk(show_scale(scale))
            desk.say(f"row a {over}")
            desk.say(f"row b {under}")
            for word, ends in (("laying", WHOLE), ("within", WITHIN), ("free", FREE)):
                bounds = Bounds(field_of(over, under, scale), ends=ends)
                self.assertEqual(desk.say(f"{word} a b"), f"{bounds.worth()} {show_path(bounds.path())}")

    def test_joined_ones_of_several_rows(self):
        for seed, (many, more) in enumerate([(2, 1), (1, 2), (3, 3), (4, 4), (5, 3)]):
            for scale in SCALES[:3]:
                over = joined_all([row_of(seed + 20 * at, 3 + at % 4) for at in range(many)], scale)
                under = joined_all([row_of(seed + 70 * at + 5, 4 - at % 3) for at in range(more)], scale)
                field = over.field_with(under, scale)
                parts = parts_by_the_words(over.rows(), under.rows(), scale)
                self.assertEqual(told_by(field), parts)
                told = {(Bounds(field).worth(), Bounds(field).path()), cut_way(field)[:2], strip_way(field)[:2],
                        strip_way(field, breadth=0)[:2], (Bounds(field).worth(), Ways(field).path_at(0))}
                self.assertEqual(len(told), 1)


class NoneIsWorthMore(unittest.TestCase):
    def test_each_step_is_bounded_and_the_told_path_meets_its_bounds(self):
        for seed, scale in itertools.product(range(4), SCALES):
            over, under = row_of(seed, 4), row_of(seed + 5, 3)
            parts = told_by(field_of(over, under, scale))
            for ends in ENDS[::3]:
                bounds = Bounds(field_of(over, under, scale), ends=ends)
                self.assertTrue(is_fair(field_of(over, under, scale), bounds.table(), ends=ends))
                for path in all_paths(4, 3):
                    met = []
                    for number, (at, to) in enumerate(cells_of(path)):
                        ahead = path[number - 1] if number else "b"
                        left = reckoned(parts, path[number:], ends, at, to, ahead)
                        self.assertLessEqual(left, bounds.bound(at, to, ahead))
                        met.append(left == bounds.bound(at, to, ahead))
                    if path == bounds.path():
                        self.assertTrue(all(met))

    def test_no_path_that_leaves_a_strip_is_worth_more_than_the_paper_says(self):
        for seed, scale in itertools.product(range(4), SCALES):
            over, under = row_of(seed, 3 + seed % 2), row_of(seed + 5, 4)
            field = field_of(over, under, scale)
            aside = field.wide() - field.high()
            for low, high_edge in itertools.product(range(-4, 1), range(max(0, aside), 5)):
                above, below = strip_paper(field, low, high_edge)
                for path in all_paths(field.high(), field.wide()):
                    sides = [to - at for at, to in cells_of(path)]
                    if max(sides) > high_edge:
                        self.assertLessEqual(worth_of_path(field, path), above)
                    if min(sides) < low:
                        self.assertLessEqual(worth_of_path(field, path), below)


class BooksAndSheets(unittest.TestCase):
    def test_a_sheet_and_a_book_by_the_same_deeds(self):
        for seed, scale in itertools.product(range(4), SCALES):
            sheet, book = Sheet("abca", "cab", scale), Book(scale)
            names = {"over": "one", "under": "other"}
            book.do(("row", "one", "abca"))
            book.do(("row", "other", "cab"))
            numbers = iter(drawn(seed, 500, 0, 10 ** 6))
            for _ in range(60):
                word = ("put", "take", "turn")[next(numbers) % 3]
                side, at, number = ("over", "under")[next(numbers) % 2], next(numbers) % 8, next(numbers)
                more = {"put": row_of(number, 1 + number % 5, "abcabcx"), "take": 1 + number % 3,
                        "turn": "abcx"[number % 4]}[word]
                refusals = []
                for call in (lambda: getattr(sheet, word)(side, at, more),
                             lambda: book.do((word, names[side], at, more))):
                    try:
                        call()
                        refusals.append(None)
                    except LayError as refusal:
                        refusals.append((type(refusal), vars(refusal)))
                self.assertEqual(refusals[0], refusals[1])
                self.assertEqual([sheet.row("over")], book.rows_of("one"))
                self.assertEqual([sheet.row("under")], book.rows_of("other"))
                self.assertEqual((sheet.worth(), sheet.path()), book.laying("one", "other"))

    def test_a_book_a_desk_and_a_log_tell_the_same(self):
        scale = Scale("ab", [[5, -4], [-3, 5]], opening=2, each=1)
        plain, book, desk = PlainBook(scale), Book(scale), Desk(show_scale(scale))
        for deed in deeds_for(plain, 1, 80):
            if plain.due(deed) is None:
                plain.do(deed)
                book.do(deed)
                desk.say(plain.log().split("\n")[-2])
            other = come_up(scale, desk.say("log"))
            self.assertEqual((other.names(), other.log()), (book.names(), book.log()))
            for name, rows in plain.kept():
                self.assertEqual((book.rows_of(name), other.rows_of(name)), (rows, rows))
                self.assertEqual(desk.say(f"rows {name}"), show_joined(Joined(rows)))

    def test_rows_that_are_joined_keep_whole(self):
        for seed, scale in itertools.product(range(6), SCALES[:3]):
            rows = [row_of(seed + 30 * at, (seed + at) % 7) for at in range(8)]
            names = "abcdefgh"
            book = Book(scale)
            for name, row in zip(names, rows):
                book.do(("row", name, row))
            last = "a"
            for at in range(1, 8):
                name = "to" + names[at]
                book.do(("join", name, last, names[at]))
                told = book.rows_of(name)
                self.assertEqual([row.replace("-", "") for row in told], rows[:at + 1])
                self.assertEqual(without_bare(told[:at]), book.rows_of(last))
                for place in range(at + 1):
                    book.do(("without", "x", name, place))
                    self.assertEqual(book.rows_of("x"), without_bare(told[:place] + told[place + 1:]))
                    book.do(("drop", "x"))
                last = name
            self.assertEqual(book.rows_of(last), joined_all(rows, scale).rows())


if __name__ == "__main__":
    unittest.main()
