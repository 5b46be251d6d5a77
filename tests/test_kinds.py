"""Points 2 and 12 of the document: of which kinds a thing is."""

import itertools
import unittest

from laybeside import kinds
from tests.helper import SIGNS, SMALL, shape, strangers

QUESTIONS = {
    "whole": kinds.is_whole, "worth": kinds.is_worth, "price": kinds.is_price,
    "great_worth": kinds.is_great_worth, "great_price": kinds.is_great_price,
    "letter": kinds.is_letter, "row": kinds.is_row, "name": kinds.is_name, "step": kinds.is_step,
    "path": kinds.is_path, "gapped": kinds.is_gapped, "side": kinds.is_side, "ends": kinds.are_ends,
}
SMALL_NUMBER = "whole worth price great_worth great_price"

NUMBERS = [
    (0, SMALL_NUMBER), (1, SMALL_NUMBER), (4, SMALL_NUMBER), (97, SMALL_NUMBER),
    (10 ** 6 - 1, SMALL_NUMBER), (10 ** 6, SMALL_NUMBER),
    (10 ** 6 + 1, "whole great_worth great_price"),
    (-1, "whole worth great_worth"), (-(10 ** 6) + 1, "whole worth great_worth"),
    (-(10 ** 6), "whole worth great_worth"), (-(10 ** 6) - 1, "whole great_worth"),
    (10 ** 12 - 1, "whole great_worth great_price"), (10 ** 12, "whole great_worth great_price"),
    (10 ** 12 + 1, "whole"), (-(10 ** 12) + 1, "whole great_worth"), (-(10 ** 12), "whole great_worth"),
    (-(10 ** 12) - 1, "whole"), (2 ** 31, "whole great_worth great_price"), (2 ** 63, "whole"),
    (10 ** 300, "whole"), (-(10 ** 300), "whole"), (10 ** 5000, "whole"), (-(10 ** 5000), "whole"),
]

TEXTS = [
    ("", "row path gapped"),
    ("a", "letter row name gapped"), ("m", "letter row name gapped"), ("z", "letter row name gapped"),
    ("b", "letter row name step path gapped"), ("o", "letter row name step path gapped"),
    ("u", "letter row name step path gapped"),
    ("aa", "row name gapped"), ("az", "row name gapped"), ("zyx", "row name gapped"),
    ("bo", "row name path gapped"), ("ou", "row name path gapped"), ("bu", "row name path gapped"),
    ("ub", "row name path gapped"), ("bou", "row name path gapped"), ("uuoobb", "row name path gapped"),
    ("over", "row name side gapped"), ("under", "row name side gapped"),
    ("ove", "row name gapped"), ("overs", "row name gapped"), ("unde", "row name gapped"),
    ("overunde", "row name gapped"), ("overunder", "row gapped"), ("underover", "row gapped"),
    ("Over", ""), ("UNDER", ""), ("over ", ""), (" under", ""), ("over\n", ""), ("over,under", ""),
    ("a" * 7, "row name gapped"), ("a" * 8, "row name gapped"), ("a" * 9, "row gapped"),
    ("a" * 39, "row gapped"), ("a" * 40, "row gapped"), ("a" * 41, "gapped"),
    ("a" * 119, "gapped"), ("a" * 120, "gapped"), ("a" * 121, ""), ("a" * 10 ** 6, ""),
    ("b" * 8, "row name path gapped"), ("b" * 9, "row path gapped"), ("bou" * 13 + "b", "row path gapped"),
    ("bou" * 13 + "bo", "path gapped"), ("bou" * 39 + "bo", "path gapped"), ("bou" * 40, "path gapped"),
    ("bou" * 40 + "b", ""), ("u" * 121, ""), ("o" * 240, ""),
    ("-", "gapped"), ("--", "gapped"), ("-a", "gapped"), ("a-", "gapped"), ("a-z", "gapped"),
    ("-" * 119, "gapped"), ("-" * 120, "gapped"), ("-" * 121, ""), ("a-" * 60, "gapped"), ("a-" * 60 + "a", ""),
    ("A", ""), ("B", ""), ("BOU", ""), ("O", ""), ("U", ""), (" ", ""), ("\n", ""), ("a b", ""), ("a\n", ""),
    ("b\n", ""), ("\nb", ""), ("0", ""), ("1", ""), ("-1", ""), ("10", ""), ("true", "row name gapped"),
    ("True", ""), ("None", ""), ("a_b", ""), ("_", ""), ("`", ""), ("{", ""), ("@", ""), ("[", ""), (",", ""),
]

TUPLES = [
    ((), ""), ((1,), ""), ((0, 0), ""), (("a",), ""), (("b", "o", "u"), ""), (("over",), ""),
    (("over", "under"), ""), ((True,), ""), ((True, False), ""), ((True, False, True), ""),
    ((True, False, True, False), "ends"), ((False,) * 4, "ends"), ((True,) * 4, "ends"),
    ((False, False, True, True), "ends"), ((False,) * 5, ""), ((True,) * 8, ""),
    ((0, 0, 0, 0), ""), ((1, 1, 1, 1), ""), ((1, False, False, False), ""), ((False, 0, False, False), ""),
    ((True, True, 1, True), ""), ((True, True, True, 1), ""), ((False, False, False, 0), ""),
    ((None, False, False, False), ""), ((False, False, False, None), ""), ((False, "", False, False), ""),
    (("True", "True", "True", "True"), ""), ((False, False, [], False), ""), ((False, False, False, (False,)), ""),
    ((False, False, False, {}), ""), ((None,) * 4, ""), (((), (), (), ()), ""), (((False,) * 4,), ""),
    (((False,) * 4,) * 4, ""), ((False, False, (False, False)), ""), (([1], {"a": 2}), ""),
]

TRUTHS = [(True, ""), (False, "")]


def told_of(thing):
    """The names of the questions that are answered with True; each answer is a truth."""
    answers = {name: question(thing) for name, question in QUESTIONS.items()}
    if not all(answer is True or answer is False for answer in answers.values()):
        raise AssertionError(f"answers that are no truths: {answers}")
    return sorted(name for name, answer in answers.items() if answer)


class EachQuestionOfEachThing(unittest.TestCase):
    def assert_told(self, table):
        for at, (thing, names) in enumerate(table):
            with self.subTest(at=at, names=names):
                self.assertEqual(told_of(thing), sorted(names.split()))
                # The same is told when it is asked again.
                self.assertEqual(told_of(thing), sorted(names.split()))

    def test_thirteen_questions(self):
        self.assertEqual(len(QUESTIONS), 13)

    def test_numbers(self):
        self.assert_told(NUMBERS)

    def test_truths_are_no_numbers(self):
        self.assert_told(TRUTHS)

    def test_texts(self):
        self.assert_told(TEXTS)

    def test_tuples(self):
        self.assert_told(TUPLES)

    def test_other_things(self):
        self.assert_told([(thing, "") for thing in strangers()])

    def test_lists_of_what_is_right_are_not_right(self):
        self.assert_told([([thing], "") for thing, _ in NUMBERS + TEXTS + TUPLES])
        self.assert_told([((thing,), "") for thing, _ in NUMBERS + TEXTS + TUPLES])
        self.assert_told([({text: text}, "") for text, _ in TEXTS])
        self.assert_told([(list(text), "") for text, _ in TEXTS])
        self.assert_told([(tuple(text), "") for text, _ in TEXTS])
        self.assert_told([(text.encode(), "") for text, _ in TEXTS])

    def test_what_is_handed_in_stays(self):
        things = strangers() + [thing for thing, _ in TUPLES]
        things += [([True], [[1, 2], {"a": [3]}], True, False), [[["a"], "b"], ["o"]], {"a": [1, [2]]}]
        ahead = shape(things)
        for thing in things:
            told_of(thing)
        self.assertEqual(shape(things), ahead)


class TheSignsOfTexts(unittest.TestCase):
    SIGNS_OF = {
        "letter": SMALL, "row": SMALL, "name": SMALL, "step": "bou", "path": "bou", "gapped": SMALL + "-",
    }
    LENGTHS = {"row": (1, 2, 3, 39, 40), "name": (1, 2, 3, 7, 8), "path": (1, 2, 3, 119, 120),
               "gapped": (1, 2, 3, 119, 120)}

    def test_each_sign_by_itself(self):
        for name, signs in self.SIGNS_OF.items():
            for sign in SIGNS:
                with self.subTest(name=name, sign=sign):
                    self.assertIs(QUESTIONS[name](sign), sign in signs)

    def test_each_sign_among_others(self):
        for name, lengths in self.LENGTHS.items():
            for length, sign in itertools.product(lengths, SIGNS):
                for at in sorted({0, length // 2, length - 1}):
                    with self.subTest(name=name, length=length, sign=sign, at=at):
                        text = "b" * at + sign + "u" * (length - at - 1)
                        self.assertIs(QUESTIONS[name](text), sign in self.SIGNS_OF[name])

    def test_no_sign_makes_two_of_them_a_letter_or_a_step(self):
        for one, other in itertools.product(SIGNS, SIGNS):
            self.assertIs(kinds.is_letter(one + other), False)
            self.assertIs(kinds.is_step(one + other), False)

    def test_all_lengths(self):
        spans = {"letter": (1, 1), "row": (0, 40), "name": (1, 8), "step": (1, 1), "path": (0, 120),
                 "gapped": (0, 120)}
        for name, (least, most) in spans.items():
            for length in range(130):
                with self.subTest(name=name, length=length):
                    self.assertIs(QUESTIONS[name]("u" * length), least <= length <= most)

    def test_sides_with_one_other_sign(self):
        for side in ("over", "under"):
            for at, sign in itertools.product(range(len(side)), SIGNS):
                text = side[:at] + sign + side[at + 1:]
                with self.subTest(text=text):
                    self.assertIs(kinds.is_side(text), text == side)
            for at, sign in itertools.product(range(len(side) + 1), SIGNS):
                self.assertIs(kinds.is_side(side[:at] + sign + side[at:]), False)
            for at in range(len(side)):
                self.assertIs(kinds.is_side(side[:at]), False)


class FourTruths(unittest.TestCase):
    def test_each_four(self):
        for ends in itertools.product((True, False), repeat=4):
            with self.subTest(ends=ends):
                self.assertIs(kinds.are_ends(ends), True)
                self.assertIs(kinds.are_ends(list(ends)), False)

    def test_other_lengths(self):
        for many in (0, 1, 2, 3, 5, 6, 7, 8):
            for ends in itertools.product((True, False), repeat=many):
                self.assertIs(kinds.are_ends(ends), False)

    def test_one_other_thing_among_them(self):
        others = strangers() + [0, 1, -1, "", "True", (), (True,)]
        for ends in itertools.product((True, False), repeat=3):
            for at in range(4):
                for other in others:
                    self.assertIs(kinds.are_ends((*ends[:at], other, *ends[at:])), False)


if __name__ == "__main__":
    unittest.main()
