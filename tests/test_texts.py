"""Points 46 and 47 of the document: how things are written, and read back."""

import itertools
import re
import unittest

from laybeside.errors import NoText, Unlike
from laybeside.joins import Joined
from laybeside.paths import gapped
from laybeside.scales import Scale
from laybeside.texts import (read_joined, read_laying, read_path, read_scale, show_joined, show_laying, show_path,
                             show_scale)
from tests.helper import all_paths, drawn, no_texts, refused, row_of

READERS = [read_path, read_laying, read_scale, read_joined]


def texts_of(signs, most):
    """All texts of up to so many of these signs."""
    for many in range(most + 1):
        for text in itertools.product(signs, repeat=many):
            yield "".join(text)


def read_or_none(call, text):
    """What a text is read back to; None where it is refused with NoText."""
    try:
        return call(text)
    except NoText as refusal:
        assert type(refusal) is NoText
        return None


def beside(text, signs):
    """The texts that are one sign away from a text."""
    told = []
    for at in range(len(text) + 1):
        told += [text[:at] + sign + text[at:] for sign in signs]
        if at < len(text):
            told += [text[:at] + text[at + 1:], text[:at] + text[at] + text[at:]]
            told += [text[:at] + sign + text[at + 1:] for sign in signs]
    return told


def told_by_scale(scale):
    return scale.letters(), scale.worths(), scale.opening(), scale.each()


class Paths(unittest.TestCase):
    def test_by_hand(self):
        for path, text in [
            ("", "-"), ("b", "1b"), ("o", "1o"), ("u", "1u"), ("bbb", "3b"), ("bo", "1b1o"), ("b" * 9, "9b"),
            ("o" * 10, "10o"), ("u" * 120, "120u"), ("b" * 119 + "o", "119b1o"), ("bbbo" + "b" * 12, "3b1o12b"),
            ("bob", "1b1o1b"), ("uuoobb", "2u2o2b"), ("b" * 100, "100b"), ("bou" * 40, "1b1o1u" * 40),
        ]:
            with self.subTest(text=text):
                self.assertEqual(show_path(path), text)
                self.assertEqual(read_path(text), path)

    def test_there_and_back(self):
        for high, wide in itertools.product(range(4), repeat=2):
            for path in all_paths(high, wide):
                self.assertEqual(read_path(show_path(path)), path)
        for seed, many in enumerate([1, 2, 9, 10, 11, 60, 99, 100, 119, 120] * 3):
            path = row_of(seed, many, "bou" if seed % 2 else "bbbbbbbbbbbbo")
            text = show_path(path)
            self.assertEqual(read_path(text), path)
            runs = [len(list(run)) for _, run in itertools.groupby(path)]
            self.assertEqual(re.findall("[0-9]+", text), [str(run) for run in runs])
            self.assertEqual("".join(re.findall("[a-z]", text)), "".join(step for step, _ in itertools.groupby(path)))

    def test_all_short_texts(self):
        written = 0
        for text in texts_of("bou012- ", 5):
            told = read_or_none(read_path, text)
            runs = re.findall("([1-9][0-9]*)([bou])", text)
            right = "".join(many + step for many, step in runs) == text and runs != []
            right = right and all(one[1] != other[1] for one, other in zip(runs, runs[1:]))
            right = right and sum(int(many) for many, _ in runs) <= 120
            if text == "-":
                self.assertEqual(told, "")
            elif right:
                self.assertEqual(told, "".join(step * int(many) for many, step in runs))
                self.assertEqual(show_path(told), text)
                written += 1
            else:
                self.assertIsNone(told, text)
        self.assertGreater(written, 100)

    def test_what_writes_none(self):
        for text in [
            "", " ", "b", "bb", "3", "12", "b3", "3b2", "1b2b", "3b1b", "1b1o2o", "0b", "1b0o", "00b", "01b", "1b02o",
            "-1b", "--", "-0b", "+1b", "1 b", " 1b", "1b ", "1b\n", "\n", "-\n", " -", "- ", "1b-", "-1b", "1B", "1x",
            "1_0b", "1b,1o", "121b", "120b1o", "100b21o", "60b61o", "999b", "1000b", "1b1o" * 60 + "1b",
            "9" * 5000 + "b", "1" + "0" * 5000 + "b", "0" * 5000 + "1b", "1b" * 5000, "9" * 5000, "b" * 5000,
            "1b1o" * 5000, "1.0b", "1e1b",
        ]:
            with self.subTest(text=text[:20]):
                refused(self, NoText, read_path, text)


class Layings(unittest.TestCase):
    def test_by_hand(self):
        for over, under, path, text in [
            ("abcab", "acb", "bobob", "abcab\na-c-b"), ("", "", "", "\n"), ("a", "", "o", "a\n-"),
            ("", "b", "u", "-\nb"), ("a", "b", "b", "a\nb"), ("a", "b", "ou", "a-\n-b"), ("a", "b", "uo", "-a\nb-"),
            ("a" * 40, "b" * 40, "o" * 40 + "u" * 40, "a" * 40 + "-" * 40 + "\n" + "-" * 40 + "b" * 40),
        ]:
            with self.subTest(text=text):
                self.assertEqual(show_laying(over, under, path), text)
                told = read_laying(text)
                self.assertEqual(told, (over, under, path))
                self.assertIs(type(told), tuple)

    def test_there_and_back(self):
        for seed, (high, wide) in enumerate(itertools.product(range(4), repeat=2)):
            over, under = row_of(seed, high), row_of(seed + 9, wide)
            for path in all_paths(high, wide):
                text = show_laying(over, under, path)
                self.assertEqual(text, "\n".join(gapped(over, under, path)))
                self.assertEqual(read_laying(text), (over, under, path))

    def test_a_path_that_does_not_fit(self):
        for over, under, path in [("ab", "a", ""), ("ab", "a", "bb"), ("ab", "a", "bu"), ("", "", "b"), ("a", "", ""),
                                  ("", "a", "o"), ("ab", "ab", "b" * 120), ("a" * 40, "b" * 40, "b" * 39)]:
            refused(self, Unlike, show_laying, over, under, path)

    def test_all_short_texts(self):
        written = 0
        for text in texts_of("ab-\n", 7):
            told = read_or_none(read_laying, text)
            lines = text.split("\n")
            right = len(lines) == 2 and len(lines[0]) == len(lines[1])
            if right and ("-", "-") not in zip(*lines):
                over, under, path = told
                self.assertEqual((over, under), tuple(line.replace("-", "") for line in lines))
                self.assertEqual(path, "".join("u" if one == "-" else "o" if other == "-" else "b"
                                               for one, other in zip(*lines)))
                self.assertEqual(show_laying(*told), text)
                written += 1
            else:
                self.assertIsNone(told, text)
        self.assertGreater(written, 500)

    def test_what_writes_none(self):
        for text in [
            "", "a", "ab", "-", "a\n", "\na", "ab\na", "a\nab", "-\n-", "a-\nb-", "-a-\nab-", "a\nb\n", "\na\nb",
            "a\n\nb", "\n\n", "a\nb\nc", "A\nb", "a\nB", "a \nb ", " a\n b", "a\nb ", "a b\na b", "1\na", "a\r\nb",
            "a_\nb-", "a" * 41 + "\n" + "b" * 41, "a" * 41 + "\n" + "-" * 41, "-" * 41 + "\n" + "b" * 41,
            "a" * 40 + "b" + "\n" + "a" * 41, "a" * 40 + "-" + "\n" + "b" * 41, "a" * 121 + "\n" + "-" * 121,
            "a" * 5000 + "\n" + "b" * 5000, "\n" * 5000, "-" * 5000,
        ]:
            with self.subTest(text=text[:20]):
                refused(self, NoText, read_laying, text)
        self.assertEqual(read_laying("a" * 40 + "-\n" + "-" + "b" * 40), ("a" * 40, "b" * 40, "o" + "b" * 39 + "u"))


class Scales(unittest.TestCase):
    def test_by_hand(self):
        for scale, text in [
            (Scale("ab", [[5, -4], [-4, 5]]), "ab 3 1 5 -4 -4 5"), (Scale("a", [[0]], opening=0, each=0), "a 0 0 0"),
            (Scale("zy", [[1, 2], [3, 4]], opening=7, each=8), "zy 7 8 1 2 3 4"),
            (Scale("q", [[-(10 ** 6)]], opening=10 ** 6, each=10 ** 6), "q 1000000 1000000 -1000000"),
            (Scale("q", [[10 ** 6]]), "q 3 1 1000000"), (Scale("cab", [[-1, 0, 1], [2, -3, 4], [-5, 6, 999999]]),
                                                         "cab 3 1 -1 0 1 2 -3 4 -5 6 999999"),
        ]:
            with self.subTest(text=text):
                self.assertEqual(show_scale(scale), text)
                told = read_scale(text)
                self.assertIs(type(told), Scale)
                self.assertEqual(told_by_scale(told), told_by_scale(scale))

    def test_there_and_back(self):
        for many in range(1, 9):
            for seed in range(4):
                numbers = drawn(seed + many, many * many, *((-9, 9), (-(10 ** 6), 10 ** 6))[seed % 2])
                worths = [numbers[at * many:(at + 1) * many] for at in range(many)]
                opening, each = drawn(seed, 2, 0, 10 ** 6)
                scale = Scale("hcfagbed"[:many], worths, opening=opening, each=each)
                text = show_scale(scale)
                written = [str(number) for number in [opening, each, *numbers]]
                self.assertEqual(text, " ".join(["hcfagbed"[:many], *written]))
                told = read_scale(text)
                self.assertEqual(told_by_scale(told), told_by_scale(scale))
                self.assertEqual(show_scale(told), text)

    def test_texts_beside(self):
        written = 0
        for scale in ("a 3 1 5", "ab 3 1 5 -4 -4 5", "b 0 10 -20"):
            for text in beside(scale, "abc01-+ \n"):
                told = read_or_none(read_scale, text)
                number = "(0|-?[1-9][0-9]*)"
                if re.fullmatch(f"[a-z]+( {number})+", text):
                    letters, *numbers = text.split(" ")
                    right = len(set(letters)) == len(letters) and len(numbers) == 2 + len(letters) ** 2
                    right = right and int(numbers[0]) >= 0 and int(numbers[1]) >= 0
                else:
                    right = False
                self.assertEqual(told is not None, right, text)
                if right:
                    self.assertEqual(show_scale(told), text)
                    written += 1
        self.assertGreater(written, 20)

    def test_what_writes_none(self):
        for text in [
            "", " ", "a", "a 3", "a 3 1", "a 3 1 5 5", "a 3 1 5 ", " a 3 1 5", "a  3 1 5", "a 3 1  5", "a 3 1 5\n",
            "\na 3 1 5", "a\n3 1 5", "a 3 1 -0", "a 3 1 +5", "a 3 1 05", "a 03 1 5", "a -1 1 5", "a 3 -1 5", "a -0 1 5",
            "a 3 -0 5", "a 1000001 1 5", "a 3 1000001 5", "a 3 1 1000001", "a 3 1 -1000001", "a 3 1 5.0", "a 3 1 1e3",
            "a 3 1 1_0", "a 3 1 b", "a 3 1 -", "a 3 1 --5", "A 3 1 5", "aa 3 1 1 2 3 4", "aba 3 1 1 2 3 4 5 6 7 8 9",
            "3 1 5", " 3 1", "ab 3 1 5", "ab 3 1 5 -4 -4", "ab 3 1 5 -4 -4 5 6", "a b 3 1 5", "1 3 1 5", "- 3 1 5",
            "a, 3, 1, 5", "a 3 1 " + "9" * 5000, "a 3 1 -" + "9" * 5000, "a " + "1" * 5000 + " 1 5",
            "a 3 1 " + "0" * 5000, "a" * 5000, " ".join(["abcdefghi", "3", "1"] + ["0"] * 81), "a 3 1 10000000",
            "a 3 1 0x1", " " * 5000, "a 3 1 5 " * 9,
        ]:
            with self.subTest(text=text[:20]):
                refused(self, NoText, read_scale, text)


class JoinedOnes(unittest.TestCase):
    def test_by_hand(self):
        for rows, text in [([""], ""), (["", ""], "\n"), ([""] * 8, "\n" * 7), (["ab"], "ab"), (["ab", "-c"], "ab\n-c"),
                           (["a-", "--", "-b"], "a-\n--\n-b"), (["a" * 60] * 8, "\n".join(["a" * 60] * 8))]:
            with self.subTest(text=text):
                self.assertEqual(show_joined(Joined(rows)), text)
                told = read_joined(text)
                self.assertIs(type(told), Joined)
                self.assertEqual(told.rows(), rows)

    def test_all_short_texts(self):
        written = 0
        for text in texts_of("ab-\n", 6):
            told = read_or_none(read_joined, text)
            rows = text.split("\n")
            right = len({len(row) for row in rows}) == 1 and all(set(signs) != {"-"} for signs in zip(*rows))
            self.assertEqual(told is not None, right, text)
            if right:
                self.assertEqual(told.rows(), rows)
                self.assertEqual(show_joined(told), text)
                written += 1
        self.assertGreater(written, 200)

    def test_what_writes_none(self):
        for text in [
            "-", "a-", "a\n-\n", "\n" * 8, "\n".join(["a"] * 9), "a" * 61, "a" * 60 + "\n" + "b" * 61, "a\nab", "ab\na",
            "a\n", "\na", "a\n\nb", "-\n-", "a-\nb-", "A", "a b", " ", " a", "a ", "a1", "a\n1", "a\n ", "a_",
            "a" * 5000, "\n" * 5000, "a\n" * 8, "-" * 5000,
        ]:
            with self.subTest(text=text[:20]):
                refused(self, NoText, read_joined, text)


class WhateverIsHandedIn(unittest.TestCase):
    def test_what_is_no_text(self):
        for call in READERS:
            for number, thing in enumerate(no_texts()):
                with self.subTest(call=call.__name__, number=number):
                    refused(self, NoText, call, thing)

    def test_what_writes_another_kind(self):
        written = {read_path: "3b1o", read_laying: "ab\n-c", read_scale: "ab 3 1 5 -4 -4 5", read_joined: "abc"}
        for call in READERS:
            for other, text in written.items():
                # A laying of two rows is a text of joined ones too.
                if call is not other and (call, other) != (read_joined, read_laying):
                    refused(self, NoText, call, text)

    def test_the_same_again(self):
        for _ in range(3):
            self.assertEqual(read_path("3b1o"), "bbbo")
            self.assertEqual(read_laying("ab\n-c"), ("ab", "c", "ob"))
            self.assertEqual(read_joined("ab\n-c").rows(), ["ab", "-c"])
            refused(self, NoText, read_path, "b")
        one, other = read_scale("a 3 1 5"), read_scale("a 3 1 5")
        self.assertIsNot(one, other)


if __name__ == "__main__":
    unittest.main()
