"""Point 48 of the document: deeds, as tuples and as texts."""

import re
import unittest

from laybeside.deeds import is_deed, read_deed, show_deed
from laybeside.errors import NoText
from tests.helper import (bad_filled_rows, bad_letters, bad_names, bad_places, bad_rows, bad_takes, knot, no_texts,
                          refused, shape, strangers)

NAME = "[a-z]{1,8}"
PLACE = "([0-9]|[1-5][0-9]|60)"
FORMS = [
    f"row {NAME} (-|[a-z]{{1,40}})", f"put {NAME} {PLACE} [a-z]{{1,40}}", f"take {NAME} {PLACE} ([1-9]|[1-3][0-9]|40)",
    f"turn {NAME} {PLACE} [a-z]", f"join {NAME} {NAME} {NAME}", f"without {NAME} {NAME} [0-7]", f"drop {NAME}",
]
# Deeds, and how they are written.
WRITTEN = [
    (("row", "a", "abc"), "row a abc"), (("row", "a", ""), "row a -"),
    (("row", "abcdefgh", "z" * 40), "row abcdefgh " + "z" * 40), (("row", "row", "row"), "row row row"),
    (("row", "drop", ""), "row drop -"), (("row", "back", "back"), "row back back"),
    (("put", "a", 0, "b"), "put a 0 b"), (("put", "put", 60, "ab" * 20), "put put 60 " + "ab" * 20),
    (("put", "again", 10, "names"), "put again 10 names"), (("take", "a", 0, 1), "take a 0 1"),
    (("take", "take", 60, 40), "take take 60 40"), (("take", "a", 9, 9), "take a 9 9"),
    (("turn", "a", 0, "b"), "turn a 0 b"), (("turn", "turn", 60, "z"), "turn turn 60 z"),
    (("join", "a", "b", "c"), "join a b c"), (("join", "join", "join", "join"), "join join join join"),
    (("join", "x", "y", "y"), "join x y y"), (("without", "a", "b", 0), "without a b 0"),
    (("without", "without", "without", 7), "without without without 7"), (("drop", "a"), "drop a"),
    (("drop", "drop"), "drop drop"), (("drop", "overunde"), "drop overunde"),
]
# Of each word a deed, and for each place behind the word things that aren't as told there.
AT = [61, 62, 10 ** 300]
PLACES = [
    (("row", "a", "abc"), [bad_names(), bad_rows()]),
    (("put", "a", 3, "abc"), [bad_names(), bad_places() + AT, bad_filled_rows()]),
    (("take", "a", 3, 2), [bad_names(), bad_places() + AT, bad_takes()]),
    (("turn", "a", 3, "b"), [bad_names(), bad_places() + AT, bad_letters()]),
    (("join", "a", "b", "c"), [bad_names(), bad_names(), bad_names()]),
    (("without", "a", "b", 3), [bad_names(), bad_names(), bad_places() + [8, 9, 40, 60] + AT]),
    (("drop", "a"), [bad_names()]),
]
WORDS = ["row", "put", "take", "turn", "join", "without", "drop"]
SIGNS = "ab 0179-+\n"


class WhetherADeedIsOne(unittest.TestCase):
    def test_deeds_of_all_words(self):
        for deed, _ in WRITTEN:
            self.assertIs(is_deed(deed), True)
        self.assertEqual({deed[0] for deed, _ in WRITTEN}, set(WORDS))

    def test_numbers_within_their_bounds(self):
        for number in range(-2, 70):
            for deed, least, most in [(("put", "a", number, "b"), 0, 60), (("take", "a", number, 1), 0, 60),
                                      (("turn", "a", number, "b"), 0, 60), (("take", "a", 0, number), 1, 40),
                                      (("without", "a", "b", number), 0, 7)]:
                self.assertIs(is_deed(deed), least <= number <= most)

    def test_another_thing_at_each_place(self):
        for deed, bads in PLACES:
            self.assertIs(is_deed(deed), True)
            self.assertEqual(len(bads), len(deed) - 1)
            for at, bad in enumerate(bads):
                for number, thing in enumerate(bad):
                    with self.subTest(deed=deed, at=at, number=number):
                        other = (*deed[:at + 1], thing, *deed[at + 2:])
                        ahead = shape(other)
                        self.assertIs(is_deed(other), False)
                        self.assertEqual(shape(other), ahead)

    def test_another_thing_for_the_word(self):
        for deed, _ in PLACES:
            for thing in strangers() + [0, True, "", "Row", "rows", "row ", " row", "ROW", "back", "again", "over", (),
                                        ("row",)]:
                self.assertIs(is_deed((thing, *deed[1:])), False)
            for word in WORDS:
                # What is put in may be a letter alone, so what turns a letter may also put it in.
                also = (deed[0], word) == ("turn", "put")
                self.assertIs(is_deed((word, *deed[1:])), word == deed[0] or also)

    def test_a_thing_more_and_a_thing_less(self):
        for deed, _ in WRITTEN:
            for thing in (None, "a", 0, 1, "", ()):
                self.assertIs(is_deed((*deed, thing)), False)
                self.assertIs(is_deed((thing, *deed)), False)
            for at in range(len(deed)):
                self.assertIs(is_deed(deed[:at] + deed[at + 1:]), False)

    def test_other_things(self):
        things = strangers() + [True, False, 0, 1, -1, "", "row", "row a abc", "drop a", (), ("row",), ((),),
                                (("drop", "a"),),
                                (knot(),), ("drop", knot()), ["drop", "a"], [("drop", "a")], {"drop": "a"}]
        things += [list(deed) for deed, _ in WRITTEN] + [text for _, text in WRITTEN]
        for number, thing in enumerate(things):
            with self.subTest(number=number):
                self.assertIs(is_deed(thing), False)


class AsText(unittest.TestCase):
    def test_there_and_back(self):
        for deed, text in WRITTEN:
            with self.subTest(text=text):
                self.assertEqual(show_deed(deed), text)
                told = read_deed(text)
                self.assertEqual(told, deed)
                self.assertIs(type(told), tuple)
                self.assertEqual([type(part) for part in told], [type(part) for part in deed])

    def test_texts_beside(self):
        written = 0
        for _, text in WRITTEN:
            beside = [text, text + " a", text + " 0"]
            for at in range(len(text) + 1):
                beside += [text[:at] + sign + text[at:] for sign in SIGNS]
                beside += [text[:at] + sign + text[at + 1:] for sign in SIGNS] + [text[:at] + text[at + 1:]]
            for other in beside:
                right = any(re.fullmatch(form, other) for form in FORMS)
                try:
                    told = read_deed(other)
                except NoText:
                    self.assertFalse(right, other)
                else:
                    self.assertTrue(right, other)
                    self.assertIs(is_deed(told), True)
                    self.assertEqual(show_deed(told), other)
                    written += 1
        self.assertGreater(written, 500)

    def test_what_writes_none(self):
        for text in [
            "", " ", "row", "row a", "row a ", "row  a", "row a  ", "row - a", "row a a b", "row a --", "row a -a",
            "Row a b", "row A b", "row a B", "row a b ", " row a b", "row a b\n", "row\na\nb", "row a\nb",
            "row a " + "b" * 41, "row " + "a" * 9 + " b", "put a 0 -", "put a 0", "put a 0 ", "put a  b", "put a b",
            "put a 61 b", "put a 00 b", "put a 01 b", "put a -0 b", "put a -1 b", "put a +1 b", "put a 1.0 b",
            "put a True b", "put a 0 " + "b" * 41, "take a 0 0", "take a 0 41", "take a 0 01", "take a 0 -1",
            "take a 0", "take a 0 1 1", "take a b 1", "take a 0 b", "turn a 0 bc", "turn a 0 -", "turn a 0 ",
            "turn a 60 1", "turn a 100 b", "join a b", "join a b c d", "join a b -", "join a b 1", "without a b 8",
            "without a b -1", "without a b", "without a b c", "without a b 07", "drop", "drop ", "drop a b", "drop -",
            "drop 1", "back", "again", "names", "rows a", "log", "drop a\ndrop b", "none", "put a " + "9" * 5000 + " b",
            "take a 0 " + "9" * 5000, "without a b " + "0" * 5000, "put a -" + "1" * 5000 + " b", "row a " + "b" * 5000,
            "a" * 5000, " " * 5000, "drop " * 5000,
        ]:
            with self.subTest(text=text[:20]):
                refused(self, NoText, read_deed, text)

    def test_what_is_no_text(self):
        deeds = [deed for deed, _ in WRITTEN]
        for number, thing in enumerate(no_texts() + deeds + [list(deed) for deed in deeds]):
            with self.subTest(number=number):
                refused(self, NoText, read_deed, thing)


if __name__ == "__main__":
    unittest.main()
