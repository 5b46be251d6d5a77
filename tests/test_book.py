"""Points 3, 4, 11 and 49 to 54 of the document: books."""

import itertools
import time
import unittest

from laybeside.book import Book, come_up
from laybeside.bounds import Bounds
from laybeside.errors import (Alone, LayError, NoLetter, NoLog, NoName, NoNumber, NoPlace, NoRow, NotOne, Nothing,
                              There, TooLong, TooMany, Wrong)
from laybeside.fields import Field
from laybeside.joins import Joined, joined_all
from laybeside.paths import FREE, WHOLE, WITHIN
from laybeside.scales import Scale
from laybeside.stretches import Stretches
from laybeside.strips import strip_way
from laybeside.ways import Ways
from tests.helper import (PlainBook, assert_wrong, bad_ends, bad_names, bad_places, deeds_for, drawn, no_objects,
                          no_texts, refused, row_of, strangers)

ENDS = list(itertools.product((False, True), repeat=4))
SCALE = Scale("ab", [[5, -4], [-3, 5]], opening=2, each=1)
FLAT = Scale("ab", [[1, 0], [0, 1]], opening=0, each=0)
# Unlike letters lie apart by this one.
APART = Scale("ab", [[5, -9], [-9, 5]], opening=0, each=1)
NO_SCALES = no_objects() + [Scale, Field, Joined(["a"]), "a 3 1 5"]


def state_of(book):
    """The names with their rows, in order, and the log."""
    return [(name, book.rows_of(name)) for name in book.names()], book.log()


def answers_of(book):
    """What a book tells of the first and the last of its names, both ways."""
    names = book.names()
    told = [state_of(book)]
    for one, other in [(names[0], names[-1]), (names[-1], names[0])] if names else []:
        told += [book.laying(one, other), book.laying(one, other, ends=FREE), book.many(one, other),
                 book.path_at(one, other, 0), book.banded(one, other), book.stretch(one, other)]
    return told


def book_of(scale, *deeds):
    """The book in which these deeds were done."""
    book = Book(scale)
    for deed in deeds:
        book.do(deed)
    return book


def kept_by(refusal):
    return list(vars(refusal).values())


class Books(unittest.TestCase):
    def assert_due(self, due, call, *handed, **named):
        """A call is refused as it is due."""
        kind, *kept = due
        self.assertEqual(kept_by(refused(self, kind, call, *handed, **named)), kept)

    def do(self, book, plain, deed):
        """Do a deed, or see that it is refused as it is due; told is whether it was done."""
        due = plain.due(deed)
        if due:
            ahead = state_of(book)
            self.assert_due(due, book.do, deed)
            self.assertEqual(state_of(book), ahead)
        else:
            self.assertIsNone(book.do(deed))
            plain.do(deed)
        return not due


class Deeds(Books):
    def test_by_hand(self):
        book = Book(SCALE)
        self.assertEqual((book.names(), book.log()), ([], ""))
        book.do(("row", "x", "abab"))
        book.do(("row", "y", "ba"))
        book.do(("join", "xy", "x", "y"))
        self.assertEqual((book.names(), book.rows_of("xy")), (["x", "y", "xy"], ["abab", "-ba-"]))
        book.do(("put", "x", 4, "bb"))
        book.do(("take", "x", 0, 2))
        book.do(("turn", "x", 0, "b"))
        self.assertEqual((book.rows_of("x"), book.rows_of("xy")), (["bbbb"], ["abab", "-ba-"]))
        book.do(("without", "z", "xy", 0))
        self.assertEqual((book.rows_of("z"), book.rows_of("xy")), (["ba"], ["abab", "-ba-"]))
        book.do(("drop", "y"))
        book.do(("drop", "xy"))
        self.assertEqual((book.names(), book.rows_of("z")), (["x", "z"], ["ba"]))
        self.assertEqual(book.log(), "row x abab\nrow y ba\njoin xy x y\nput x 4 bb\ntake x 0 2\nturn x 0 b\n"
                                     "without z xy 0\ndrop y\ndrop xy\n")

    def test_many_deeds_against_the_words(self):
        done = {}
        kinds = set()
        for seed, scale in itertools.product(range(8), (SCALE, FLAT)):
            plain, book = PlainBook(scale), Book(scale)
            for deed in deeds_for(plain, seed, 250):
                due = plain.due(deed)
                kinds.add(due[0] if due else None)
                if self.do(book, plain, deed):
                    done[deed[0]] = done.get(deed[0], 0) + 1
                self.assertEqual(state_of(book), (plain.kept(), plain.log()))
        self.assertGreater(min(done.values()), 30)
        self.assertEqual(len(done), 7)
        self.assertLessEqual({NoName, There, NotOne, NoPlace, NoLetter, NoRow, Alone}, kinds)

    def test_put_take_and_turn_keep_the_order(self):
        book = book_of(SCALE, ("row", "b", "ab"), ("row", "a", "ab"), ("row", "c", "ab"))
        book.do(("put", "b", 0, "a"))
        book.do(("take", "a", 0, 2))
        book.do(("turn", "b", 0, "b"))
        self.assertEqual(book.names(), ["b", "a", "c"])
        self.assertEqual([book.rows_of(name) for name in "bac"], [["bab"], [""], ["ab"]])

    def test_a_name_made_anew_stands_last(self):
        book = book_of(SCALE, ("row", "a", "ab"), ("row", "b", "ab"), ("drop", "a"), ("row", "a", "b"))
        self.assertEqual((book.names(), book.rows_of("a")), (["b", "a"], ["b"]))

    def test_join_lays_the_one_over_the_other(self):
        rows = {"x": "abba", "y": "ab", "z": "bbb"}
        book = book_of(SCALE, *[("row", name, row) for name, row in rows.items()])
        for one, other in itertools.product("xyz", repeat=2):
            book.do(("join", one + other, one, other))
            expected = Joined([rows[one]]).joined_with(Joined([rows[other]]), SCALE).rows()
            self.assertEqual(book.rows_of(one + other), expected)
        book.do(("join", "all", "xy", "z"))
        self.assertEqual(book.rows_of("all"), joined_all(["abba", "ab", "bbb"], SCALE).rows())
        book.do(("join", "under", "z", "xy"))
        self.assertEqual(book.rows_of("under"), Joined(["bbb"]).joined_with(Joined(book.rows_of("xy")), SCALE).rows())

    def test_what_was_made_of_others_stays(self):
        book = book_of(SCALE, ("row", "a", "aab"), ("row", "b", "ab"), ("join", "ab", "a", "b"),
                       ("without", "c", "ab", 1))
        rows = book.rows_of("ab")
        for deed in [("put", "a", 0, "bbb"), ("turn", "b", 0, "b"), ("take", "b", 0, 2), ("drop", "a"), ("drop", "b"),
                     ("put", "c", 0, "b"), ("row", "a", "bb"), ("drop", "c"), ("row", "b", "")]:
            book.do(deed)
            self.assertEqual(book.rows_of("ab"), rows)
        book.do(("without", "c", "ab", 0))
        self.assertEqual((book.rows_of("c"), book.rows_of("ab")), (["ab"], rows))
        book.do(("drop", "ab"))
        self.assertEqual(book.rows_of("c"), ["ab"])

    def test_of_a_joined_one_with_one_row_left_the_row_is_changed(self):
        book = book_of(SCALE, ("row", "a", "aab"), ("row", "b", "ab"), ("join", "c", "a", "b"))
        for deed in (("put", "c", 0, "a"), ("take", "c", 0, 1), ("turn", "c", 0, "a")):
            self.assert_due((NotOne, "c"), book.do, deed)
        book.do(("without", "d", "c", 1))
        book.do(("put", "d", 3, "bb"))
        book.do(("turn", "d", 0, "b"))
        book.do(("take", "d", 1, 1))
        self.assertEqual(book.rows_of("d"), ["bbbb"])

    def test_names_that_are_words(self):
        book = book_of(SCALE, ("row", "row", "a"), ("row", "drop", "b"), ("join", "names", "row", "drop"),
                       ("drop", "drop"))
        self.assertEqual((book.names(), book.rows_of("names")), (["row", "names"], ["a", "b"]))


class WhatIsRefused(Books):
    def setUp(self):
        self.book = book_of(SCALE, ("row", "a", "ab"), ("row", "b", "b"), ("join", "two", "a", "b"),
                            ("join", "four", "two", "two"), ("join", "eight", "four", "four"),
                            ("row", "full", "ab" * 20))
        self.state = state_of(self.book)

    def tearDown(self):
        self.assertEqual(state_of(self.book), self.state)
        refused(self, Nothing, self.book.again)

    def test_names_that_stand_for_nothing(self):
        for deed, name in [
            (("put", "x", 60, "z" * 40), "x"), (("take", "x", 60, 40), "x"), (("turn", "x", 60, "z"), "x"),
            (("drop", "x"), "x"), (("join", "n", "x", "y"), "x"), (("join", "n", "a", "y"), "y"),
            (("join", "n", "x", "a"), "x"), (("without", "n", "x", 7), "x"), (("join", "a", "x", "y"), "x"),
            (("join", "a", "a", "y"), "y"), (("without", "a", "x", 0), "x"), (("join", "n", "n", "a"), "n"),
            (("without", "n", "n", 0), "n"),
        ]:
            with self.subTest(deed=deed):
                self.assert_due((NoName, name), self.book.do, deed)

    def test_names_that_stand_already(self):
        for deed in [("row", "a", "ab"), ("row", "a", "zz"), ("row", "two", ""), ("join", "a", "a", "b"),
                     ("join", "two", "eight", "eight"), ("without", "a", "a", 0), ("without", "a", "two", 7),
                     ("without", "b", "two", 0)]:
            with self.subTest(deed=deed):
                self.assert_due((There, deed[1]), self.book.do, deed)

    def test_several_rows_where_one_is_asked_for(self):
        for name in ("two", "four", "eight"):
            for deed in [("put", name, 60, "z" * 40), ("put", name, 0, "a"), ("take", name, 60, 40),
                         ("take", name, 0, 1),
                         ("turn", name, 60, "z"), ("turn", name, 0, "a")]:
                with self.subTest(deed=deed):
                    self.assert_due((NotOne, name), self.book.do, deed)

    def test_places_lengths_and_letters(self):
        for deed, due in [
            (("put", "a", 3, "b"), (NoPlace, 3)), (("put", "a", 60, "z" * 40), (NoPlace, 60)),
            (("put", "full", 41, "z"), (NoPlace, 41)), (("put", "full", 40, "z"), (TooLong, 40)),
            (("put", "a", 2, "z" * 39), (TooLong, 40)), (("put", "a", 2, "bz"), (NoLetter, "z")),
            (("put", "a", 0, "zy"), (NoLetter, "z")), (("take", "a", 1, 2), (NoPlace, 1)),
            (("take", "a", 2, 1), (NoPlace, 2)), (("take", "a", 60, 40), (NoPlace, 60)),
            (("turn", "a", 2, "z"), (NoPlace, 2)), (("turn", "a", 1, "z"), (NoLetter, "z")),
            (("row", "n", "abz"), (NoLetter, "z")), (("row", "n", "zyx"), (NoLetter, "z")),
        ]:
            with self.subTest(deed=deed):
                self.assert_due(due, self.book.do, deed)

    def test_joins_and_rows(self):
        for deed, due in [
            (("join", "n", "eight", "a"), (TooMany, 8)), (("join", "n", "a", "eight"), (TooMany, 8)),
            (("join", "n", "eight", "full"), (TooMany, 8)), (("without", "n", "a", 0), (Alone,)),
            (("without", "n", "a", 1), (NoRow, 1)), (("without", "n", "two", 2), (NoRow, 2)),
            (("without", "n", "four", 7), (NoRow, 7)),
        ]:
            with self.subTest(deed=deed):
                self.assert_due(due, self.book.do, deed)

    def test_more_than_sixty_columns(self):
        book = book_of(APART, ("row", "a", "a" * 30), ("row", "b", "b" * 30), ("row", "c", "b" * 31),
                       ("join", "ab", "a", "b"))
        self.assertEqual(book.rows_of("ab"), ["a" * 30 + "-" * 30, "-" * 30 + "b" * 30])
        state = state_of(book)
        self.assert_due((TooLong, 60), book.do, ("join", "n", "a", "c"))
        self.assert_due((TooLong, 60), book.do, ("join", "n", "c", "a"))
        self.assert_due((There, "b"), book.do, ("join", "b", "c", "a"))
        self.assertEqual(state_of(book), state)


class FortyNames(Books):
    def setUp(self):
        self.names = [one + other for one in "abcdefgh" for other in "stuvw"]
        self.book = book_of(APART, *[("row", name, "ab") for name in self.names])

    def test_one_more(self):
        self.assertEqual((len(self.names), self.book.names()), (40, self.names))
        for deed, due in [
            (("row", "n", "ab"), (TooMany, 40)), (("row", "n", "z"), (TooMany, 40)),
            (("join", "n", "as", "at"), (TooMany, 40)), (("without", "n", "as", 7), (TooMany, 40)),
            (("without", "n", "as", 0), (TooMany, 40)), (("row", "as", "ab"), (There, "as")),
            (("join", "as", "x", "at"), (NoName, "x")), (("join", "n", "as", "x"), (NoName, "x")),
            (("without", "n", "x", 0), (NoName, "x")), (("join", "as", "as", "at"), (There, "as")),
        ]:
            with self.subTest(deed=deed):
                self.assert_due(due, self.book.do, deed)
        self.assertEqual(self.book.names(), self.names)

    def test_what_makes_none_is_done(self):
        self.book.do(("put", "as", 0, "b"))
        self.book.do(("turn", "at", 0, "b"))
        self.book.do(("take", "au", 0, 2))
        self.assertEqual([self.book.rows_of(name) for name in ("as", "at", "au")], [["bab"], ["bb"], [""]])
        self.assertEqual(self.book.names(), self.names)

    def test_room_behind_a_drop(self):
        self.book.do(("drop", "bt"))
        self.book.do(("join", "n", "as", "at"))
        self.assert_due((TooMany, 40), self.book.do, ("row", "m", "a"))
        self.book.back()
        self.book.do(("row", "m", "a"))
        self.assert_due((TooMany, 40), self.book.do, ("row", "k", "a"))
        self.assertEqual(self.book.names(), [name for name in self.names if name != "bt"] + ["m"])
        self.book.back()
        self.book.back()
        self.assertEqual(self.book.names(), self.names)


class BackAndAgain(Books):
    def test_nothing(self):
        book = Book(SCALE)
        for _ in range(2):
            refused(self, Nothing, book.back)
            refused(self, Nothing, book.again)
        book.do(("row", "a", "ab"))
        refused(self, Nothing, book.again)
        self.assertIsNone(book.back())
        refused(self, Nothing, book.back)
        self.assertEqual(state_of(book), ([], ""))
        self.assertIsNone(book.again())
        refused(self, Nothing, book.again)
        self.assertEqual(state_of(book), ([("a", ["ab"])], "row a ab\n"))

    def test_all_the_way_back_and_again(self):
        plain, book = PlainBook(SCALE), Book(SCALE)
        for deed in deeds_for(plain, 3, 200):
            self.do(book, plain, deed)
        states = []
        while plain.deeds:
            states.append(state_of(book))
            book.back()
            plain.back()
            self.assertEqual(state_of(book), (plain.kept(), plain.log()))
        refused(self, Nothing, book.back)
        self.assertGreater(len(states), 60)
        while states:
            book.again()
            self.assertEqual(state_of(book), states.pop())
        refused(self, Nothing, book.again)

    def test_by_turns_against_the_words(self):
        for seed in range(6):
            plain, book = PlainBook(SCALE), Book(SCALE)
            for deed, what in zip(deeds_for(plain, seed + 40, 400), drawn(seed, 400, 0, 9)):
                if what < 4:
                    self.do(book, plain, deed)
                elif what < 7:
                    if plain.deeds:
                        book.back()
                        plain.back()
                    else:
                        refused(self, Nothing, book.back)
                elif plain.undone:
                    book.again()
                    plain.again()
                else:
                    refused(self, Nothing, book.again)
                self.assertEqual(state_of(book), (plain.kept(), plain.log()))

    def test_what_was_undone_is_forgotten_behind_a_new_deed(self):
        book = book_of(SCALE, ("row", "a", "ab"), ("row", "b", "b"), ("row", "c", "a"))
        book.back()
        book.back()
        book.do(("row", "d", ""))
        refused(self, Nothing, book.again)
        self.assertEqual((book.names(), book.log()), (["a", "d"], "row a ab\nrow d -\n"))
        book.back()
        book.again()
        self.assertEqual(book.names(), ["a", "d"])
        # Also where it is the very deed that was undone.
        book.do(("row", "b", "b"))
        book.back()
        book.do(("row", "b", "b"))
        refused(self, Nothing, book.again)

    def test_what_was_undone_stays_behind_a_refused_deed_and_behind_asking(self):
        book = book_of(SCALE, ("row", "a", "ab"), ("row", "b", "b"), ("row", "c", "a"))
        book.back()
        book.back()
        for deed, kind in [(("row", "a", "b"), There), (("drop", "b"), NoName), (("put", "a", 9, "b"), NoPlace),
                           (("row", "n", "z"), NoLetter), (("drop",), Wrong), (3, Wrong), (("row", "a", 3), Wrong)]:
            refused(self, kind, book.do, deed)
        refused(self, NoName, book.tried, [("row", "b", "b"), ("drop", "x")], "a", "b")
        book.tried([("row", "b", "ba")], "a", "b")
        book.laying("a", "a")
        book.log()
        book.again()
        book.again()
        self.assertEqual(state_of(book), ([("a", ["ab"]), ("b", ["b"]), ("c", ["a"])], "row a ab\nrow b b\nrow c a\n"))

    def test_a_dropped_name_stands_where_it_stood(self):
        names = list("abcde")
        for name in names:
            book = book_of(SCALE, *[("row", one, "ab") for one in names])
            book.do(("turn", name, 0, "b"))
            book.do(("drop", name))
            self.assertEqual(book.names(), [one for one in names if one != name])
            book.back()
            self.assertEqual((book.names(), book.rows_of(name)), (names, ["bb"]))
            book.again()
            self.assertEqual(book.names(), [one for one in names if one != name])
            book.do(("row", name, "a"))
            self.assertEqual(book.names(), [one for one in names if one != name] + [name])
            book.back()
            book.back()
            book.back()
            self.assertEqual((book.names(), book.rows_of(name)), (names, ["ab"]))

    def test_undone_and_done_again_is_as_if_it_had_not_been_undone(self):
        plain, straight, winding = PlainBook(SCALE), Book(SCALE), Book(SCALE)
        for number, deed in enumerate(deeds_for(plain, 9, 200)):
            due = plain.due(deed)
            for book in (straight, winding):
                if due:
                    self.assert_due(due, book.do, deed)
                else:
                    book.do(deed)
            if not due:
                plain.do(deed)
            times = min(number % 7, winding.log().count("\n"))
            for _ in range(times):
                winding.back()
                if number % 3 == 0:
                    answers_of(winding)
            for _ in range(times):
                winding.again()
            self.assertEqual(state_of(winding), state_of(straight))
            if number % 20 == 0:
                self.assertEqual(answers_of(winding), answers_of(straight))


class WhatIsAsked(Books):
    def setUp(self):
        self.book = book_of(
            SCALE, ("row", "a", "abba"), ("row", "b", "bab"), ("row", "none", ""), ("row", "long", row_of(1, 40, "ab")),
            ("join", "ab", "a", "b"), ("join", "abb", "ab", "b"), ("join", "bare", "none", "none"))
        self.state = state_of(self.book)

    def field_of(self, one, other):
        return Joined(self.book.rows_of(one)).field_with(Joined(self.book.rows_of(other)), SCALE)

    def test_of_two_names_and_of_one_name_twice(self):
        for one, other in itertools.product(self.book.names(), repeat=2):
            with self.subTest(one=one, other=other):
                field = self.field_of(one, other)
                for ends in ENDS if "long" not in (one, other) else (WHOLE, WITHIN, FREE):
                    bounds, ways = Bounds(field, ends=ends), Ways(field, ends=ends)
                    self.assertEqual(self.book.laying(one, other, ends=ends), (bounds.worth(), bounds.path()))
                    self.assertEqual(self.book.many(one, other, ends=ends), ways.many())
                    for number in {0, ways.many() - 1, ways.many() // 2}:
                        self.assertEqual(self.book.path_at(one, other, number, ends=ends), ways.path_at(number))
                    for number in (ways.many(), 10 ** 60 - 1):
                        self.assert_due((NoNumber, number), self.book.path_at, one, other, number, ends=ends)
                for breadth in (0, 1, 2, 7, 60):
                    self.assertEqual(self.book.banded(one, other, breadth=breadth), strip_way(field, breadth=breadth))
                self.assertEqual(self.book.stretch(one, other), Stretches(field).told())
        self.assertEqual(state_of(self.book), self.state)

    def test_ends_and_breadth_left_out(self):
        for one, other in [("a", "b"), ("b", "a"), ("ab", "a"), ("a", "abb"), ("long", "b")]:
            self.assertEqual(self.book.laying(one, other), self.book.laying(one, other, ends=WHOLE))
            self.assertEqual(self.book.many(one, other), self.book.many(one, other, ends=WHOLE))
            self.assertEqual(self.book.path_at(one, other, 0), self.book.path_at(one, other, 0, ends=WHOLE))
            self.assertEqual(self.book.banded(one, other), self.book.banded(one, other, breadth=2))
            self.assertEqual(self.book.tried([("drop", "none")], one, other), self.book.laying(one, other))
        self.assertNotEqual(self.book.laying("a", "b"), self.book.laying("a", "b", ends=FREE))

    def test_the_first_name_that_stands_for_nothing(self):
        book = self.book
        for one, other, name in [("x", "y", "x"), ("a", "y", "y"), ("x", "a", "x"), ("x", "x", "x")]:
            for call, more in [(book.laying, []), (book.many, []), (book.path_at, [0]), (book.path_at, [10 ** 60]),
                               (book.banded, []), (book.stretch, [])]:
                self.assert_due((NoName, name), call, one, other, *more)
            self.assert_due((NoName, name), book.tried, [("drop", "none")], one, other)
        self.assert_due((NoName, "x"), book.rows_of, "x")
        self.assertEqual(state_of(book), self.state)

    def test_ahead_of_a_change_and_behind_it(self):
        plain, book = PlainBook(SCALE), Book(SCALE)
        for deed in deeds_for(plain, 5, 150, "abc"):
            self.do(book, plain, deed)
            rows_of = dict(plain.kept())
            for one, other in [("a", "b"), ("c", "a"), ("b", "b")]:
                if one in rows_of and other in rows_of:
                    field = Joined(rows_of[one]).field_with(Joined(rows_of[other]), SCALE)
                    bounds = Bounds(field, ends=FREE)
                    self.assertEqual(book.laying(one, other, ends=FREE), (bounds.worth(), bounds.path()))
                    self.assertEqual(book.many(one, other), Ways(field).many())
                    self.assertEqual(book.banded(one, other), strip_way(field))
                    self.assertEqual(book.stretch(one, other), Stretches(field).told())
                else:
                    self.assert_due((NoName, one if one not in rows_of else other), book.laying, one, other)

    def test_the_kinds_of_what_is_told(self):
        book = self.book
        told = [book.names(), book.rows_of("ab"), book.laying("a", "b"), book.many("a", "b"),
                book.path_at("a", "b", 0), book.banded("a", "b"), book.stretch("a", "b"), book.log(),
                book.tried([("drop", "none")], "a", "b")]
        self.assertEqual([type(part) for part in told], [list, list, tuple, int, str, tuple, tuple, str, tuple])
        self.assertEqual([type(part) for part in book.laying("a", "b")], [int, str])


class Tried(Books):
    def setUp(self):
        self.deeds = [("row", "a", "abba"), ("row", "b", "bab"), ("join", "ab", "a", "b"), ("row", "c", "bb"),
                      ("drop", "c")]
        self.book = book_of(SCALE, *self.deeds)
        self.book.back()

    def assert_as_it_was(self, call):
        """The book is as it was behind a call, also where it is refused; what can be undone and done again, too."""
        ahead = answers_of(self.book)
        try:
            told = call()
        except LayError as refusal:
            told = refusal
        self.assertEqual(answers_of(self.book), ahead)
        self.book.again()
        self.assertEqual(self.book.names(), ["a", "b", "ab"])
        for _ in range(5):
            self.book.back()
        refused(self, Nothing, self.book.back)
        for _ in range(4):
            self.book.again()
        self.assertEqual(answers_of(self.book), ahead)
        return told

    def test_names_made_changed_and_dropped(self):
        for deeds, one, other in [
            ([("put", "a", 0, "b")], "a", "b"), ([("drop", "c")], "a", "ab"), ([("row", "n", "ab")], "n", "n"),
            ([("row", "n", "ab"), ("put", "n", 2, "ba"), ("join", "m", "n", "ab"), ("drop", "n"), ("drop", "a")],
             "m", "b"),
            ([("drop", "a"), ("row", "a", "bbbb")], "a", "b"),
            ([("without", "n", "ab", 1), ("turn", "n", 0, "b")], "n", "c"),
            ([("turn", "a", 0, "ab"[at % 2]) for at in range(20)], "a", "b"), ([("take", "b", 0, 1)] * 3, "a", "b"),
            ([("drop", name) for name in ("a", "b", "ab")], "c", "c"),
        ]:
            for ends in ENDS:
                book = book_of(SCALE, *self.deeds[:4], *deeds)
                told = self.assert_as_it_was(lambda: self.book.tried(deeds, one, other, ends=ends))
                self.assertEqual(told, book.laying(one, other, ends=ends))

    def test_deeds_that_are_refused(self):
        for deeds, one, other, due in [
            ([("drop", "x"), ("row", "a", "b")], "a", "b", (NoName, "x")),
            ([("row", "a", "b")], "x", "y", (There, "a")),
            ([("row", "n", "a"), ("row", "n", "b"), ("drop", "x")], "x", "y", (There, "n")),
            ([("drop", "a"), ("turn", "a", 0, "b")], "a", "b", (NoName, "a")),
            ([("put", "a", 0, "ab")] * 19, "a", "b", (TooLong, 40)),
            ([("put", "a", 4, "ba")] * 18 + [("put", "a", 0, "z")], "a", "b", (TooLong, 40)),
            ([("take", "b", 0, 1)] * 4, "a", "b", (NoPlace, 0)),
            ([("row", "n", "ab")] + [("row", "m", "z")], "n", "n", (NoLetter, "z")),
            ([("row", "n", "ab"), ("without", "m", "n", 0)], "x", "n", (Alone,)),
            ([("without", "m", "ab", 2)], "a", "b", (NoRow, 2)),
            ([("row", "n", "ab"), ("turn", "ab", 0, "b")], "a", "b", (NotOne, "ab")),
            ([("join", "n", "ab", "ab"), ("join", "m", "n", "n"), ("join", "k", "m", "a")], "a", "b", (TooMany, 8)),
            # What is laid is refused behind all deeds alone.
            ([("row", "n", "ab")], "x", "y", (NoName, "x")), ([("drop", "a")], "b", "a", (NoName, "a")),
            ([("drop", "a"), ("drop", "b")], "b", "a", (NoName, "b")),
        ]:
            with self.subTest(deeds=deeds[-1]):
                told = self.assert_as_it_was(lambda: self.book.tried(deeds, one, other))
                self.assertIs(type(told), due[0])
                self.assertEqual(kept_by(told), list(due[1:]))

    def test_up_to_forty_names(self):
        book = book_of(SCALE, *[("row", one + other, "ab") for one in "abcdefgh" for other in "stuv"])
        more = [("row", "n" + letter, "b") for letter in "abcdefgh"]
        state = state_of(book)
        self.assertEqual(book.tried(more, "na", "nh"), (5, "b"))
        self.assert_due((TooMany, 40), book.tried, [*more, ("row", "m", "a")], "na", "nh")
        self.assertEqual(state_of(book), state)

    def test_the_list_of_deeds_stays(self):
        deeds = [("row", "n", "ab"), ("drop", "a")]
        self.book.tried(deeds, "n", "b")
        self.assertEqual(deeds, [("row", "n", "ab"), ("drop", "a")])
        deeds.clear()
        self.assertEqual(self.book.names(), ["a", "b", "ab", "c"])

    def test_drawn_deeds(self):
        plain, book = PlainBook(SCALE), Book(SCALE)
        for deed in deeds_for(plain, 8, 60):
            self.do(book, plain, deed)
        refusals = 0
        for seed in range(60):
            trial = PlainBook(SCALE)
            trial.states = [plain.kept()]
            deeds, due = [], None
            for deed in deeds_for(trial, seed + 200, 20 if seed % 9 == 0 else 1 + seed % 4):
                deeds.append(deed)
                due = due or trial.due(deed)
                if not due:
                    trial.do(deed)
            rows_of = dict(trial.kept())
            one, other = plain.kept()[0][0], plain.kept()[seed % len(plain.kept())][0]
            due = due or next(((NoName, name) for name in (one, other) if name not in rows_of), None)
            ahead = state_of(book)
            if due:
                self.assert_due(due, book.tried, deeds, one, other)
                refusals += 1
            else:
                bounds = Bounds(Joined(rows_of[one]).field_with(Joined(rows_of[other]), SCALE))
                self.assertEqual(book.tried(deeds, one, other), (bounds.worth(), bounds.path()))
            self.assertEqual(state_of(book), ahead)
        self.assertGreater(refusals, 10)
        self.assertLess(refusals, 50)


class TheLog(Books):
    def test_there_and_back(self):
        for seed, scale in itertools.product(range(4), (SCALE, FLAT)):
            plain, book = PlainBook(scale), Book(scale)
            for deed in deeds_for(plain, seed + 70, 80):
                self.do(book, plain, deed)
            told = come_up(scale, book.log())
            self.assertIs(type(told), Book)
            self.assertEqual(answers_of(told), answers_of(book))
            refused(self, Nothing, told.again)
            # Both go on alike.
            other = PlainBook(scale)
            for deed in plain.deeds:
                other.do(deed)
            for deed in deeds_for(plain, seed + 90, 40):
                self.assertEqual(self.do(book, plain, deed), self.do(told, other, deed))
            self.assertEqual(state_of(told), state_of(book))
            for _ in range(len(plain.deeds)):
                book.back()
                told.back()
                self.assertEqual(state_of(told), state_of(book))
            refused(self, Nothing, told.back)
            self.assertEqual(state_of(told), ([], ""))

    def test_what_was_undone_does_not_stand(self):
        book = book_of(SCALE, ("row", "a", ""), ("row", "b", "b"), ("drop", "a"))
        self.assertEqual(book.log(), "row a -\nrow b b\ndrop a\n")
        book.back()
        self.assertEqual(book.log(), "row a -\nrow b b\n")
        told = come_up(SCALE, book.log())
        self.assertEqual(told.names(), ["a", "b"])
        refused(self, Nothing, told.again)
        book.again()
        self.assertEqual(book.log(), "row a -\nrow b b\ndrop a\n")

    def test_a_text_without_rows(self):
        book = come_up(SCALE, "")
        self.assertEqual(state_of(book), ([], ""))
        refused(self, Nothing, book.back)
        book.do(("row", "a", "ab"))
        self.assertEqual(book.log(), "row a ab\n")

    def test_logs_that_do_not_come_up(self):
        good = "row a ab\nrow b b\n"
        for text, at in [
            ("\n", 0), ("\n\n", 0), (good + "\n", 2), ("\n" + good, 0), ("row a ab\n\nrow b b\n", 1), ("row a ab", 0),
            ("x", 0), (good + "drop a", 2), (good + "x", 2), (good + " ", 2), ("back\n", 0), (good + "again\n", 2),
            (good + "names\n", 2), ("row a ab\nrow b  b\n", 1), (" row a ab\n", 0), ("row a ab \n", 0),
            ("row a ab\nROW b b\n", 1), ("row a \n", 0),
            # Deeds that are refused.
            ("row a ab\nrow a b\n", 1), ("drop a\n", 0), ("row a abz\n", 0), (good + "put a 3 b\n", 2),
            (good + "join a a b\n", 2), (good + "without c a 0\n", 2), (good + "join c a b\nturn c 0 a\nx y\n", 4),
            (good + "drop a\ndrop a\n", 3),
            # A row that is no deed's text goes ahead of a deed that is refused, wherever it stands.
            ("drop a\nx\n", 1), ("drop a\n" + good + "x\n" + "y\n", 3),
            ("row a ab\nrow a ab\nrow c b\nput c 0\ndrop x\n", 3),
            # So do signs behind the last line feed, and rows ahead of these go ahead of them.
            ("drop a\nrow", 1), ("drop a\ndrop b\ndrop c", 2), ("drop a\nx\ny", 1), ("x\ny", 0),
            (good + "drop x\ny\nrow c a", 3), (good + "drop x\nrow c a", 3), ("row a " + "b" * 41 + "\n", 0),
            ("put a " + "9" * 5000 + " b\n", 0),
        ]:
            with self.subTest(text=text[:40]):
                self.assert_due((NoLog, at), come_up, SCALE, text)

    def test_by_another_scale(self):
        log = book_of(SCALE, ("row", "a", "ab"), ("row", "b", "ba")).log()
        self.assertEqual(come_up(Scale("ba", [[1, 1], [1, 1]]), log).laying("a", "b"), (2, "bb"))
        self.assert_due((NoLog, 0), come_up, Scale("a", [[1]]), log)

    def test_long_logs_in_good_time(self):
        began = time.process_time()
        log = "row a ab\n" + "put a 0 b\ntake a 0 1\n" * 5000
        book = come_up(SCALE, log)
        self.assertEqual(book.log(), log)
        for _ in range(10001):
            book.back()
        self.assertEqual(book.log(), "")
        self.assertLess(time.process_time() - began, 20)


class WhoseTheyAre(Books):
    def test_told_lists_are_the_askers_own(self):
        book = book_of(SCALE, ("row", "a", "ab"), ("row", "b", "b"), ("join", "c", "a", "b"))
        ahead = state_of(book)
        for ask in (book.names, lambda: book.rows_of("c"), lambda: book.rows_of("a")):
            one, other = ask(), ask()
            self.assertIsNot(one, other)
            one.clear()
            other.append("x")
            self.assertEqual(state_of(book), ahead)

    def test_told_lists_behind_back_and_again(self):
        book = book_of(SCALE, ("row", "a", "ab"), ("turn", "a", 0, "b"))
        book.rows_of("a").clear()
        book.back()
        book.names().clear()
        book.rows_of("a").append("b")
        book.again()
        self.assertEqual(state_of(book), ([("a", ["bb"])], "row a ab\nturn a 0 b\n"))

    def test_two_books_know_nothing_of_one_another(self):
        plains, books = [PlainBook(SCALE), PlainBook(SCALE), PlainBook(FLAT)], [Book(SCALE), Book(SCALE), Book(FLAT)]
        drawings = [deeds_for(plain, seed, 300) for seed, plain in enumerate(plains)]
        for number in range(300):
            which = number * number // 5 % 3
            self.do(books[which], plains[which], next(drawings[which]))
            if number % 11 == 0 and plains[which].deeds:
                books[which].back()
                plains[which].back()
            for book, plain in zip(books, plains):
                self.assertEqual(state_of(book), (plain.kept(), plain.log()))

    def test_asked_in_any_order(self):
        book = book_of(SCALE, ("row", "a", "abba"), ("row", "b", "bab"), ("join", "c", "a", "b"))
        asks = [book.names, book.log, lambda: book.laying("a", "c", ends=FREE), lambda: book.many("c", "b"),
                lambda: book.banded("a", "b"), lambda: book.tried([("drop", "c"), ("turn", "a", 0, "b")], "a", "b")]
        expected = [ask() for ask in asks]
        for order in itertools.permutations(range(6)):
            for which in order:
                self.assertEqual(asks[which](), expected[which])


def bad_deeds():
    """Things that are no deeds."""
    return strangers() + [
        True, False, 0, 1, "", "row", "drop a", (), ("drop",), ("drop", "A"), ("drop", "a", "b"), ["drop", "a"],
        ("row", "a"), ("row", "a", "a" * 41), ("row", "a", None), ("put", "a", 0, ""), ("put", "a", True, "b"),
        ("put", "a", 61, "b"), ("take", "a", 0, 0), ("take", "a", 0, 41), ("turn", "a", 0, "ab"),
        ("turn", "a", -1, "a"), ("join", "a", "b"), ("join", "a", "b", "c" * 9), ("without", "a", "b", 8),
        ("without", "a", "b", False), ("back",), ("names",), (("drop", "a"),), [("drop", "a")],
    ]


class WhatIsNotAsTold(Books):
    def setUp(self):
        self.book = book_of(SCALE, ("row", "a", "abba"), ("row", "b", "bab"))
        self.state = state_of(self.book)

    def tearDown(self):
        self.assertEqual(state_of(self.book), self.state)

    def test_what_books_are_made_of(self):
        assert_wrong(self, Book, [SCALE], [NO_SCALES])

    def test_deeds(self):
        assert_wrong(self, self.book.do, [("row", "c", "a")], [bad_deeds()])

    def test_what_is_asked_of_names(self):
        for one, other in (("a", "b"), ("x", "y")):
            names = [bad_names(), bad_names()]
            assert_wrong(self, self.book.laying, [one, other, FREE], [*names, bad_ends()], ["ends"])
            assert_wrong(self, self.book.laying, [one, other], names)
            assert_wrong(self, self.book.many, [one, other, FREE], [*names, bad_ends()], ["ends"])
            assert_wrong(self, self.book.path_at, [one, other, 0, FREE], [*names, bad_places(), bad_ends()], ["ends"])
            assert_wrong(self, self.book.path_at, [one, other, 10 ** 60], [*names, bad_places()])
            breadths = bad_places() + [61, 62, 10 ** 300]
            assert_wrong(self, self.book.banded, [one, other, 0], [*names, breadths], ["breadth"])
            assert_wrong(self, self.book.banded, [one, other], names)
            assert_wrong(self, self.book.stretch, [one, other], names)
            assert_wrong(self, self.book.rows_of, [one], [bad_names()])

    def test_what_is_tried(self):
        bad = [[thing] for thing in bad_deeds()] + [[("drop", "a"), thing] for thing in bad_deeds()]
        bad += [thing for thing in strangers()] + [True, 0, "", "drop a", (), (("drop", "a"),), ("drop", "a"), [],
                                                   [("drop", "a")] * 21]
        for one, other in (("a", "b"), ("x", "y")):
            assert_wrong(self, self.book.tried, [[("drop", "x")], one, other, FREE],
                         [bad, bad_names(), bad_names(), bad_ends()], ["ends"])
        self.assert_due((Wrong, 0), self.book.tried, [("drop", "x")] * 20 + [3], "a", "b")
        self.assert_due((NoName, "x"), self.book.tried, [("turn", "a", 0, "b")] * 19 + [("drop", "x")], "a", "b")

    def test_what_comes_up(self):
        for text in ("", "row a ab\n", "x"):
            assert_wrong(self, come_up, [SCALE, text], [NO_SCALES, no_texts()])

    def test_handed_in_by_name_alone(self):
        for call in (lambda: self.book.laying("a", "b", FREE), lambda: self.book.many("a", "b", FREE),
                     lambda: self.book.path_at("a", "b", 0, FREE), lambda: self.book.banded("a", "b", 2),
                     lambda: self.book.tried([("drop", "a")], "a", "b", FREE)):
            with self.assertRaises(TypeError):
                call()


if __name__ == "__main__":
    unittest.main()
