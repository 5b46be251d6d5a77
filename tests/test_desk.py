"""Points 3, 4, 11 and 55 of the document: desks."""

import itertools
import unittest

from laybeside.book import Book
from laybeside.deeds import show_deed
from laybeside.desk import Desk
from laybeside.errors import (Alone, NoLetter, NoLine, NoName, NoNumber, NoPlace, NoRow, NoText, NotOne, Nothing, There,
                              TooLong, TooMany)
from laybeside.paths import FREE, WITHIN
from laybeside.scales import Scale
from laybeside.texts import show_path
from tests.helper import PlainBook, deeds_for, no_texts, refused

TEXT = "ab 2 1 5 -4 -3 5"
SCALE = Scale("ab", [[5, -4], [-3, 5]], opening=2, each=1)
FLAT_TEXT = "ab 0 0 1 0 0 1"
FLAT = Scale("ab", [[1, 0], [0, 1]], opening=0, each=0)


def desk_of(text, *rows):
    """The desk that was told these rows."""
    desk = Desk(text)
    for row in rows:
        desk.say(row)
    return desk


def answers(book, one, other):
    """Rows that ask of two names, each with its answer by a book."""
    worth, path, low, high, above, below = book.banded(one, other)
    at, to, part = book.stretch(one, other)
    told = {
        f"many {one} {other}": str(book.many(one, other)),
        f"strip {one} {other}": f"{worth} {show_path(path)} {low} {high} {'none' if above is None else above} "
                                f"{'none' if below is None else below}",
        f"stretch {one} {other}": f"{at} {to} {show_path(part)}",
    }
    for word, ends in [("laying", None), ("within", WITHIN), ("free", FREE)]:
        worth, path = book.laying(one, other, ends=ends) if ends else book.laying(one, other)
        told[f"{word} {one} {other}"] = f"{worth} {show_path(path)}"
    for number in (0, book.many(one, other) // 2, book.many(one, other) - 1):
        told[f"path {one} {other} {number}"] = show_path(book.path_at(one, other, number))
    return told


class Desks(unittest.TestCase):
    def assert_tells(self, desk, book):
        """A desk answers what a book tells."""
        names = book.names()
        self.assertEqual(desk.say("names"), " ".join(names) if names else "none")
        self.assertEqual(desk.say("log"), book.log())
        for name in names:
            self.assertEqual(desk.say(f"rows {name}"), "\n".join(book.rows_of(name)))
        for one, other in itertools.product({*names[:1], *names[-1:]}, repeat=2):
            for row, answer in answers(book, one, other).items():
                self.assertEqual(desk.say(row), answer)


class WhatIsAnswered(Desks):
    def test_by_hand(self):
        desk = Desk("ab 3 1 5 -4 -4 5")
        for row, answer in [
            ("names", "none"), ("log", ""), ("row a abab", "ok"), ("row b ba", "ok"), ("row c -", "ok"),
            ("names", "a b c"), ("join ab a b", "ok"), ("join abc ab c", "ok"), ("rows a", "abab"),
            ("rows ab", "abab\n-ba-"), ("rows c", ""), ("rows abc", "abab\n-ba-\n----"), ("laying a b", "2 1o2b1o"),
            ("laying b a", "2 1u2b1u"), ("laying c c", "0 -"), ("within b a", "10 1u2b1u"), ("within a b", "2 1o2b1o"),
            ("free a b", "10 1o2b1o"), ("many a b", "1"), ("path a b 0", "1o2b1o"), ("path c c 0", "-"),
            ("strip a b", "2 1o2b1o -4 2 none none"), ("stretch a b", "1 0 2b"), ("stretch c b", "0 0 -"),
            ("strip c c", "0 - -2 2 none none"), ("many ab a", "1"),
            ("log", "row a abab\nrow b ba\nrow c -\njoin ab a b\njoin abc ab c\n"), ("back", "ok"),
            ("names", "a b c ab"), ("again", "ok"), ("names", "a b c ab abc"), ("put a 0 bb", "ok"),
            ("rows a", "bbabab"), ("rows ab", "abab\n-ba-"), ("take a 1 2", "ok"), ("turn a 0 a", "ok"),
            ("rows a", "abab"), ("without x ab 0", "ok"), ("rows x", "ba"), ("drop a", "ok"), ("names", "b c ab abc x"),
            ("back", "ok"), ("names", "a b c ab abc x"),
        ]:
            with self.subTest(row=row):
                self.assertEqual(desk.say(row), answer)

    def test_a_paper_with_numbers(self):
        desk = desk_of("ab 3 1 5 -4 -4 5", "row a " + "ab" * 10, "row b " + "ab" * 10)
        self.assertEqual(desk.say("strip a b"), "100 20b -2 2 73 73")
        desk = desk_of("ab 0 0 0 -1 -1 0", "row a " + "ab" * 10, "row b " + "ba" * 10)
        self.assertEqual(desk.say("strip a b"), "0 1o19b1u -23 23 none none")
        # Numbers that are nought aren't none.
        desk = desk_of("a 0 0 1", "row a aaaaa", "row b aaaaa")
        self.assertEqual(desk.say("strip a b"), "5 5b -2 2 2 2")
        desk = desk_of("a 2 1 3", "row a aaa", "row b aaa")
        self.assertEqual(desk.say("strip a b"), "9 3b -2 2 -10 -10")
        desk = desk_of("a 0 0 8", "row a aaa", "row b aaa")
        self.assertEqual(desk.say("strip a b"), "24 3b -2 2 0 0")

    def test_deeds_drawn(self):
        for seed, (text, scale) in enumerate([(TEXT, SCALE), (FLAT_TEXT, FLAT)]):
            desk, book, plain = Desk(text), Book(scale), PlainBook(scale)
            for number, deed in enumerate(deeds_for(plain, seed + 20, 120)):
                row = show_deed(deed)
                due = plain.due(deed)
                if due:
                    refusal = refused(self, due[0], desk.say, row)
                    self.assertEqual(list(vars(refusal).values()), list(due[1:]))
                else:
                    self.assertEqual(desk.say(row), "ok")
                    book.do(deed)
                    plain.do(deed)
                    if number % 5 == 0:
                        self.assertEqual((desk.say("back"), book.back()), ("ok", None))
                        self.assert_tells(desk, book)
                        self.assertEqual((desk.say("again"), book.again()), ("ok", None))
                self.assert_tells(desk, book)

    def test_names_that_are_words(self):
        desk = desk_of(TEXT, "row row ab", "row names b", "row back a", "row none ab")
        self.assertEqual(desk.say("names"), "row names back none")
        self.assertEqual(desk.say("rows names"), "b")
        self.assertEqual(desk.say("laying back names"), "-4 1b")
        self.assertEqual(desk.say("drop back"), "ok")
        self.assertEqual(desk.say("join again row row"), "ok")
        self.assertEqual(desk.say("rows again"), "ab\nab")
        self.assertEqual(desk.say("path row row 0"), "2b")

    def test_one_name_alone_that_is_none(self):
        self.assertEqual(desk_of(TEXT, "row none -").say("names"), "none")

    def test_great_numbers(self):
        desk = desk_of("a 0 0 0", "row a " + "a" * 40, "row b " + "a" * 40)
        many = int(desk.say("many a b"))
        self.assertEqual(len(str(many)), 30)
        self.assertEqual(desk.say(f"path a b {many - 1}"), "40u40o")
        for number in (many, 10 ** 59, 10 ** 60 - 1):
            self.assertEqual(refused(self, NoNumber, desk.say, f"path a b {number}").number, number)

    def test_answers_are_texts(self):
        desk = desk_of(TEXT, "row a ab", "row b ba")
        for row in ("names", "log", "rows a", "laying a b", "within a b", "free a b", "many a b", "path a b 0",
                    "strip a b",
                    "stretch a b", "row c a", "back", "again"):
            self.assertIs(type(desk.say(row)), str)


class WhatIsRefused(Desks):
    def setUp(self):
        self.desk = desk_of(TEXT, "row a ab", "row b b", "join two a b", "row full " + "ab" * 20, "join four two two",
                            "join eight four four", "drop b")
        self.desk.say("back")
        self.state = self.desk.say("names"), self.desk.say("log")

    def tearDown(self):
        self.assertEqual((self.desk.say("names"), self.desk.say("log")), self.state)
        self.assertEqual(self.desk.say("again"), "ok")

    def test_what_the_book_refuses(self):
        for row, kind, kept in [
            ("drop x", NoName, ["x"]), ("rows x", NoName, ["x"]), ("laying a x", NoName, ["x"]),
            ("within x y", NoName, ["x"]), ("free a x", NoName, ["x"]), ("many x a", NoName, ["x"]),
            ("path a x 0", NoName, ["x"]), ("strip x x", NoName, ["x"]), ("stretch a x", NoName, ["x"]),
            ("row a ab", There, ["a"]), ("row n z", NoLetter, ["z"]), ("put a 3 a", NoPlace, [3]),
            ("put full 0 a", TooLong, [40]), ("take a 0 3", NoPlace, [0]), ("turn a 2 z", NoPlace, [2]),
            ("turn a 1 z", NoLetter, ["z"]), ("put two 0 a", NotOne, ["two"]), ("join n eight a", TooMany, [8]),
            ("without n a 0", Alone, []), ("without n two 2", NoRow, [2]), ("path a b 9", NoNumber, [9]),
            ("path a b " + "9" * 60, NoNumber, [10 ** 60 - 1]),
        ]:
            with self.subTest(row=row):
                self.assertEqual(list(vars(refused(self, kind, self.desk.say, row)).values()), kept)

    def test_rows_that_a_desk_does_not_know(self):
        for row in [
            "", " ", "x", "a", "a b", "Names", "names ", " names", "names a", "names\n", "\nnames", "log ", "log a",
            "log\n", "LOG", "back ", " back", "back 1", "back\n", "again ", "again a", "again\n", "undo", "rows",
            "rows ", "rows  a", "rows a ", "rows a b", "rows A", "rows 1", "rows -", "rows a\n", "rows overunder",
            "laying", "laying a", "laying a ", "laying  a b", "laying a  b", "laying a b ", "laying a b c",
            "laying a b 0", "laying a B", "laying A b", "laying a\nb", "within a", "within a b c", "free a",
            "free a b c", "many a", "many a b 0", "many", "path a b", "path a b ", "path a 0", "path a b c",
            "path a b 0 ", "path a b  0", "path a b 00", "path a b 01", "path a b -0", "path a b -1", "path a b +1",
            "path a b 1.0", "path a b 1_0", "path a b 0x1", "path a b 0 0", "path a b 0\n", "path a b " + "1" * 61,
            "path a b 1" + "0" * 60, "path a b " + "9" * 5000, "path a b 0" + "1" * 59, "path a b -" + "1" * 59,
            "path A b 0", "strip a", "strip a b 2", "stretch a", "stretch a b 0", "stretch a b c", "row a", "row a ",
            "row n a b", "row n --", "row n " + "a" * 41, "row N ab", "row n ab ", "row n ab\n", "rown ab",
            "put a 61 a", "put a 0 -", "put a 00 a", "put a -1 a", "take a 0 0", "take a 0 41", "turn a 0 ab",
            "join n a", "without n a 8", "drop", "drop a b", "drop  a", "tried", "drop a\ndrop b", "ok", "none", "row",
            "put", "ab 2 1 5 -4 -3 5", "banded a b", "put a " + "9" * 5000 + " a",
        ]:
            with self.subTest(row=row[:30]):
                refused(self, NoLine, self.desk.say, row)

    def test_ahead_of_what_the_book_refuses(self):
        for row in ["rows overunder", "laying x y z", "path x y", "path x y 01", "path x y " + "1" * 61, "laying x Y",
                    "within X y", "drop x y", "put x 61 z", "turn x 0 zz", "join a x y z", "without a x 8",
                    "put x 60 -", "row a zA",
                    "strip x y 2", "many x y "]:
            refused(self, NoLine, self.desk.say, row)

    def test_what_is_no_text(self):
        for number, thing in enumerate(no_texts()):
            with self.subTest(number=number):
                refused(self, NoLine, self.desk.say, thing)


class Nought(Desks):
    def test_nothing_to_undo(self):
        desk = Desk(TEXT)
        for _ in range(2):
            refused(self, Nothing, desk.say, "back")
            refused(self, Nothing, desk.say, "again")
            refused(self, NoLine, desk.say, "back ")
        desk.say("row a ab")
        refused(self, Nothing, desk.say, "again")
        desk.say("back")
        refused(self, Nothing, desk.say, "back")
        self.assertEqual(desk.say("names"), "none")
        desk.say("again")
        self.assertEqual(desk.say("names"), "a")

    def test_forty_names(self):
        desk = desk_of(TEXT, *[f"row {one}{other} ab" for one in "abcdefgh" for other in "stuvw"])
        self.assertEqual(refused(self, TooMany, desk.say, "row n ab").most, 40)
        refused(self, NoLine, desk.say, "row n aB")


class Opened(Desks):
    def test_with_what_is_no_scales_text(self):
        for text in no_texts() + ["", "ab", "ab 2 1", "ab 2 1 5 -4 -3", "ab 2 1 5 -4 -3 5 ", " ab 2 1 5 -4 -3 5",
                                  "ab  2 1 5 -4 -3 5", "aa 2 1 5 -4 -3 5", "ab 2 1 5 -4 -3 5\n", "ab -2 1 5 -4 -3 5",
                                  "ab 2 1 5 -4 -3 05", "ab 2 1 5 -4 -3 -0", "AB 2 1 5 -4 -3 5",
                                  "ab 2 1 5 -4 -3 1000001", "ab 2 1 5 -4 -3 " + "9" * 5000, "row a ab", SCALE]:
            refused(self, NoText, Desk, text)

    def test_by_its_scale(self):
        self.assertEqual(desk_of("ab 0 0 7 0 0 7", "row a ab", "row b ab").say("laying a b"), "14 2b")
        self.assertEqual(desk_of("ba 9 2 1 2 3 4", "row a ab", "row b ba").say("laying a b"), "5 2b")
        self.assertEqual(desk_of("a 0 0 0").say("names"), "none")

    def test_two_desks_by_turns(self):
        desks, books = [Desk(TEXT), Desk(FLAT_TEXT), Desk(TEXT)], [Book(SCALE), Book(FLAT), Book(SCALE)]
        plains = [PlainBook(SCALE), PlainBook(FLAT), PlainBook(SCALE)]
        drawings = [deeds_for(plain, seed + 60, 120) for seed, plain in enumerate(plains)]
        for number in range(120):
            which = number * number // 5 % 3
            deed = next(drawings[which])
            if plains[which].due(deed) is None:
                plains[which].do(deed)
                books[which].do(deed)
                self.assertEqual(desks[which].say(show_deed(deed)), "ok")
            else:
                refused(self, plains[which].due(deed)[0], desks[which].say, show_deed(deed))
            for desk, book in zip(desks, books):
                self.assertEqual((desk.say("names"), desk.say("log")), (" ".join(book.names()) or "none", book.log()))
            if number % 20 == 0:
                for desk, book in zip(desks, books):
                    self.assert_tells(desk, book)


if __name__ == "__main__":
    unittest.main()
