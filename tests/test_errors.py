"""Point 4 of the document: the refusals as classes."""

import unittest

from laybeside import errors
from tests.helper import strangers

# Each refusal, and the name under which it keeps what it was made of.
FIELDS = {
    "Wrong": "at", "NoLetter": "letter", "Unlike": None, "NotBest": None, "NoNumber": "number",
    "NoPlace": "at", "TooLong": "most", "TooMany": "most", "Bare": "at", "NoRow": "at", "Alone": None,
    "NoName": "name", "There": "name", "NotOne": "name", "Nothing": None, "NoText": None, "NoLog": "at",
    "NoLine": None,
}
KEEPING = {name: field for name, field in FIELDS.items() if field}
BARE = [name for name, field in FIELDS.items() if not field]


def made_ofs():
    """Things of every kind that a refusal may be made of."""
    return strangers() + [
        0, 1, -1, 7, 10 ** 12, 10 ** 5000, -10 ** 5000, True, False, "", "a", "over", "\n", "x" * 1000,
        (), (1,), ("a", [1]), ((), ((),)), 1.5, ValueError("a"),
    ]


def made(name):
    kind = getattr(errors, name)
    return kind(3) if FIELDS[name] else kind()


class TheClasses(unittest.TestCase):
    def test_there_are_eighteen(self):
        self.assertEqual(len({getattr(errors, name) for name in FIELDS}), 18)

    def test_lay_error_stands_under_value_error(self):
        self.assertTrue(issubclass(errors.LayError, ValueError))
        self.assertIsNot(errors.LayError, ValueError)

    def test_each_stands_under_lay_error_and_value_error(self):
        for name in FIELDS:
            with self.subTest(name=name):
                self.assertTrue(issubclass(getattr(errors, name), errors.LayError))
                self.assertTrue(issubclass(getattr(errors, name), ValueError))

    def test_none_stands_under_another_one(self):
        for one in FIELDS:
            for other in FIELDS:
                with self.subTest(one=one, other=other):
                    under = issubclass(getattr(errors, one), getattr(errors, other))
                    self.assertIs(under, one == other)

    def test_each_is_defined_in_errors_under_its_name(self):
        for name in ["LayError", *FIELDS]:
            with self.subTest(name=name):
                self.assertEqual(getattr(errors, name).__module__, "laybeside.errors")
                self.assertEqual(getattr(errors, name).__name__, name)

    def test_each_is_raised_and_caught_as_itself(self):
        for name in FIELDS:
            for kind in (getattr(errors, name), errors.LayError, ValueError):
                with self.subTest(name=name, kind=kind):
                    refusal = made(name)
                    with self.assertRaises(kind) as caught:
                        raise refusal
                    self.assertIs(caught.exception, refusal)

    def test_none_is_caught_as_another_one(self):
        for one in FIELDS:
            for other in FIELDS:
                with self.subTest(one=one, other=other):
                    self.assertIs(isinstance(made(one), getattr(errors, other)), one == other)


class WhatTheyKeep(unittest.TestCase):
    def test_each_keeps_the_very_thing(self):
        for name, field in KEEPING.items():
            for at, thing in enumerate(made_ofs()):
                with self.subTest(name=name, thing=at):
                    self.assertIs(getattr(getattr(errors, name)(thing), field), thing)

    def test_each_takes_the_thing_by_its_name(self):
        for name, field in KEEPING.items():
            for at, thing in enumerate(made_ofs()):
                with self.subTest(name=name, thing=at):
                    self.assertIs(getattr(getattr(errors, name)(**{field: thing}), field), thing)

    def test_each_keeps_it_where_it_is_raised(self):
        for name, field in KEEPING.items():
            thing = ["a", 1]
            with self.subTest(name=name):
                with self.assertRaises(errors.LayError) as caught:
                    raise getattr(errors, name)(thing)
                self.assertIs(getattr(caught.exception, field), thing)
                self.assertEqual(thing, ["a", 1])

    def test_two_of_a_class_keep_what_is_their_own(self):
        for name, field in KEEPING.items():
            with self.subTest(name=name):
                one, other = getattr(errors, name)(1), getattr(errors, name)(2)
                self.assertEqual((getattr(one, field), getattr(other, field)), (1, 2))

    def test_the_others_are_made_of_nothing(self):
        for name in BARE:
            with self.subTest(name=name):
                self.assertIs(type(getattr(errors, name)()), getattr(errors, name))

    def test_each_has_a_text_whatever_it_was_made_of(self):
        for name in KEEPING:
            for at, thing in enumerate(made_ofs()):
                with self.subTest(name=name, thing=at):
                    refusal = getattr(errors, name)(thing)
                    self.assertIsInstance(str(refusal), str)
                    self.assertIsInstance(repr(refusal), str)


class TheFirstThatIsWrong(unittest.TestCase):
    def test_nothing_is_refused_where_all_is_right(self):
        for many in range(6):
            with self.subTest(many=many):
                self.assertIsNone(errors.refuse_wrong([True] * many))

    def test_the_first_is_refused(self):
        for as_told, at in [([False], 0), ([False, False], 0), ([True, False], 1), ([True, False, False], 1),
                            ([True, True, False, True], 2), ([True, True, True, False], 3)]:
            with self.subTest(as_told=as_told):
                with self.assertRaises(errors.Wrong) as caught:
                    errors.refuse_wrong(as_told)
                self.assertEqual(caught.exception.at, at)


if __name__ == "__main__":
    unittest.main()
