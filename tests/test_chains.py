"""Points 3, 4, 28 and 29 of the document: chains."""

import functools
import itertools
import time
import unittest

from laybeside import chains
from laybeside.bounds import Bounds
from laybeside.chains import Chain
from laybeside.errors import NoPlace
from laybeside.fields import Field
from laybeside.paths import WHOLE
from laybeside.scales import Scale
from laybeside.stretches import Stretches
from tests.helper import (assert_wrong, bad_great_prices, bad_places, cells_in, field_from, no_objects, parts_of,
                          reckoned, refused, strangers, told_by)

GREAT = 10 ** 12
STATES = ("out", "b", "o", "u")
NO_FIELDS = no_objects() + [Field, Scale("a", [[1]]), Bounds(Field([], [], [])), Chain(Field([], [], []))]
SMALL_FIELDS = [parts_of(seed, *size) for seed, size in enumerate(itertools.product(range(4), repeat=2))]
SMALL_FIELDS += [parts_of(seed, 3, 3, -1, 3, 1, 1) for seed in range(4)]
SMALL_FIELDS += [parts_of(seed, 2, 3, 0, 2, 1, 0) for seed in range(3)]
SMALL_FIELDS += [parts_of(seed, 3, 2, -9, 9, 9, 0) for seed in range(3)]
SMALL_FIELDS += [([[0] * 3] * 3, [0] * 3, [0] * 3, 0), ([[1] * 3] * 3, [0] * 3, [0] * 3, 0),
                 ([[5, -9, 1], [2, 2, -9]], [1, 0], [0, 1, 1], 1), parts_of(7, 2, 3, -GREAT, GREAT, GREAT, GREAT)]
FEES = [0, 1, 2, 5, GREAT]


@functools.lru_cache(None)
def texts(high, wide, inside):
    """The texts of all chains through so many places, outside or within a stretch at first."""
    told = [] if high or wide else [""]
    for sign, over, under in [("O", 1, 0), ("U", 0, 1), ("b", 1, 1)] + [("o", 1, 0), ("u", 0, 1)] * inside:
        if high >= over and wide >= under:
            told += [sign + rest for rest in texts(high - over, wide - under, sign not in "OU")]
    return told


def chain_worth(parts, fee, text, at=0, to=0, state="out"):
    """What the signs of a text from a cell on are worth, by the words of point 28."""
    worth = 0
    for sign in text:
        if sign == "b" and state == "out":
            worth -= fee
        if sign not in "OU":
            worth += reckoned(parts, sign, WHOLE, at, to, state)
        at += sign in "Oob"
        to += sign in "Uub"
        state = "out" if sign in "OU" else sign
    return worth


def texts_from(parts, at, to, state):
    return texts(len(parts[1]) - at, len(parts[2]) - to, state != "out")


def best_texts(parts, fee):
    """The greatest worth, and the texts of all chains that are worth it, rising."""
    worths = {text: chain_worth(parts, fee, text) for text in texts_from(parts, 0, 0, "out")}
    most = max(worths.values())
    return most, sorted(text for text, worth in worths.items() if worth == most)


def stretches_in(text):
    """The runs of b, o and u in a text, with the cells at which they begin."""
    told = []
    for inside, numbers in itertools.groupby(range(len(text)), lambda number: text[number] in "bou"):
        numbers = list(numbers)
        if inside:
            ahead = text[:numbers[0]]
            told.append((sum(sign in "Oob" for sign in ahead), sum(sign in "Uub" for sign in ahead),
                         text[numbers[0]:numbers[-1] + 1]))
    return told


class ChainBounds(unittest.TestCase):
    def test_small_fields_with_several_fees(self):
        for number, parts in enumerate(SMALL_FIELDS):
            for fee in FEES:
                chain = Chain(field_from(parts), fee=fee)
                for (at, to), state in itertools.product(cells_in(parts), STATES):
                    with self.subTest(number=number, fee=fee, at=at, to=to, state=state):
                        expected = max(chain_worth(parts, fee, text, at, to, state)
                                       for text in texts_from(parts, at, to, state))
                        self.assertEqual(chain.bound(at, to, state), expected)

    def test_the_fee_if_none_is_told(self):
        self.assertEqual(chains.FEE, 1)
        for parts in SMALL_FIELDS:
            left_out, told = Chain(field_from(parts)), Chain(field_from(parts), fee=1)
            self.assertEqual((left_out.worth(), left_out.text()), (told.worth(), told.text()))
            for (at, to), state in itertools.product(cells_in(parts), STATES):
                self.assertEqual(left_out.bound(at, to, state), told.bound(at, to, state))

    def test_the_last_cell(self):
        for parts in SMALL_FIELDS:
            chain = Chain(field_from(parts))
            for state in STATES:
                self.assertEqual(chain.bound(len(parts[1]), len(parts[2]), state), 0)

    def test_no_places(self):
        for high, wide in [(0, 0), (0, 1), (1, 0), (0, 60), (60, 0)]:
            chain = Chain(field_from(parts_of(1, high, wide)))
            self.assertEqual((chain.worth(), chain.text(), chain.told()), (0, "O" * high + "U" * wide, []))
            self.assertEqual(chain.bound(0, 0, "b"), 0)

    def test_cells_beside_the_field(self):
        for high, wide in [(0, 0), (0, 3), (3, 0), (2, 4)]:
            chain = Chain(field_from(parts_of(1, high, wide)))
            for at, to, state in itertools.product((0, high, high + 1, 99), (0, wide, wide + 1, 10 ** 300), STATES):
                if at > high or to > wide:
                    expected = at if at > high else to
                    self.assertEqual(refused(self, NoPlace, chain.bound, at, to, state).at, expected)

    def test_the_first_of_two_places(self):
        chain = Chain(field_from(parts_of(1, 2, 4)))
        for at, to, expected in [(3, 5, 3), (2, 5, 5), (3, 4, 3), (4, 3, 4), (8, 9, 8)]:
            self.assertEqual(refused(self, NoPlace, chain.bound, at, to, "out").at, expected)


class TheToldChain(unittest.TestCase):
    def test_small_fields_with_several_fees(self):
        for number, parts in enumerate(SMALL_FIELDS):
            for fee in FEES:
                with self.subTest(number=number, fee=fee):
                    chain = Chain(field_from(parts), fee=fee)
                    most, best = best_texts(parts, fee)
                    self.assertEqual((chain.worth(), chain.bound(0, 0, "out")), (most, most))
                    self.assertEqual(chain.text(), best[0])
                    self.assertEqual(chain.told(), stretches_in(best[0]))

    def test_there_are_fields_with_several_best_texts_and_several_stretches(self):
        best = [best_texts(parts, fee)[1] for parts in SMALL_FIELDS for fee in FEES]
        self.assertGreater(sum(len(texts) > 1 for texts in best), 50)
        self.assertGreater(sum(len(stretches_in(texts[0])) > 1 for texts in best), 3)
        # Where a small letter could stand as well as a capital, the capital does.
        self.assertTrue(any(texts[0][:1] == "O" and texts[-1][:1] == "b" for texts in best))

    def test_a_fee_so_great_that_no_stretch_pays(self):
        for high, wide in itertools.product(range(5), repeat=2):
            parts = parts_of(high, high, wide, 0, 9)
            chain = Chain(field_from(parts), fee=GREAT)
            self.assertEqual((chain.worth(), chain.text(), chain.told()), (0, "O" * high + "U" * wide, []))

    def test_a_stretch_that_just_pays_its_fee_is_left_out(self):
        field = Field([[5]], [0], [0])
        for fee, worth, text, told in [(4, 1, "b", [(0, 0, "b")]), (5, 0, "OU", []), (6, 0, "OU", []),
                                       (0, 5, "b", [(0, 0, "b")])]:
            chain = Chain(field, fee=fee)
            self.assertEqual((chain.worth(), chain.text(), chain.told()), (worth, text, told))

    def test_by_hand(self):
        field = Field([[5, -9, -9], [-9, -9, 5]], [1] * 2, [1] * 3, opening=2)
        # To go on costs 3, and to begin anew the fee, with a place left out.
        self.assertEqual((Chain(field, fee=2).text(), Chain(field, fee=2).worth()), ("bUb", 6))
        self.assertEqual(Chain(field, fee=2).told(), [(0, 0, "b"), (1, 2, "b")])
        self.assertEqual((Chain(field, fee=3).text(), Chain(field, fee=3).worth()), ("bUb", 4))
        self.assertEqual((Chain(field, fee=4).text(), Chain(field, fee=4).worth()), ("bub", 3))
        self.assertEqual(Chain(field, fee=4).told(), [(0, 0, "bub")])
        field = Field([[5, -9], [-9, 5]], [1] * 2, [1] * 2)
        # Two pairs beside one another are one stretch, for one fee.
        self.assertEqual((Chain(field).text(), Chain(field).worth()), ("bb", 9))

    def test_the_stretches_come_to_the_worth(self):
        for seed, (high, wide, fee) in enumerate([(9, 9, 1), (20, 15, 0), (15, 20, 3), (60, 60, 2), (60, 7, 5)]):
            parts = parts_of(seed, high, wide, -9, 9, 3, 3)
            chain = Chain(field_from(parts), fee=fee)
            text, told = chain.text(), chain.told()
            self.assertEqual(chain_worth(parts, fee, text), chain.worth())
            self.assertEqual(told, stretches_in(text))
            self.assertEqual(sum(reckoned(parts, path, WHOLE, at, to) - fee for at, to, path in told), chain.worth())
            self.assertTrue(all(path[0] == "b" for _, _, path in told))
            self.assertGreater(len(told), 1)
            self.assertEqual(sum(sign in "Oob" for sign in text), high)
            self.assertEqual(sum(sign in "Uub" for sign in text), wide)

    def test_one_stretch_is_no_worse_than_a_chain_without_fee(self):
        for seed in range(9):
            field = field_from(parts_of(seed, 12, 9))
            self.assertGreaterEqual(Chain(field, fee=0).worth(), Stretches(field).worth())
            self.assertGreaterEqual(Chain(field, fee=3).worth(), Stretches(field).worth() - 3)

    def test_the_kinds_of_what_is_told(self):
        chain = Chain(field_from(SMALL_FIELDS[-2]))
        self.assertIs(type(chain.told()), list)
        self.assertTrue(chain.told())
        for stretch in chain.told():
            self.assertIs(type(stretch), tuple)
            self.assertEqual([type(part) for part in stretch], [int, int, str])
        self.assertEqual((type(chain.text()), type(chain.worth())), (str, int))

    def test_a_great_field_in_good_time(self):
        parts = parts_of(3, 60, 60, -GREAT, GREAT, GREAT, GREAT)
        began = time.process_time()
        chain = Chain(field_from(parts), fee=GREAT)
        text = chain.text()
        self.assertLess(time.process_time() - began, 4)
        self.assertEqual(chain_worth(parts, GREAT, text), chain.worth())


class WhoseTheyAre(unittest.TestCase):
    def test_told_lists_are_the_askers_own(self):
        chain = Chain(field_from(parts_of(1, 3, 3, -1, 3, 1, 1)))
        ahead = chain.told()
        one, other = chain.told(), chain.told()
        self.assertIsNot(one, other)
        one.clear()
        other.append(3)
        self.assertEqual(chain.told(), ahead)
        self.assertTrue(ahead)

    def test_asked_in_any_order_of_two_fields_by_turns(self):
        fields = [field_from(parts_of(1, 3, 3, -1, 3, 1, 1)), field_from(parts_of(2, 2, 4, -3, 5))]
        asks = [lambda made: made.told(), lambda made: made.worth(), lambda made: made.text(),
                lambda made: made.bound(1, 2, "u")]
        expected = [[ask(Chain(field, fee=2)) for ask in asks] for field in fields]
        for order in itertools.permutations(range(4)):
            both = [Chain(field, fee=2) for field in fields]
            for at in order + order[::-1]:
                self.assertEqual([asks[at](made) for made in both], [told[at] for told in expected])
        self.assertEqual([told_by(field) for field in fields],
                         [parts_of(1, 3, 3, -1, 3, 1, 1), parts_of(2, 2, 4, -3, 5)])

    def test_lists_of_which_the_field_was_made(self):
        pairs, over, under, opening = parts_of(1, 3, 3, -1, 3, 1, 1)
        chain = Chain(Field(pairs, over, under, opening=opening))
        pairs[0][0] = 99
        over.clear()
        under[1] = 0
        most, best = best_texts(parts_of(1, 3, 3, -1, 3, 1, 1), 1)
        self.assertEqual((chain.worth(), chain.text()), (most, best[0]))

    def test_two_fees_of_one_field(self):
        field = field_from(parts_of(1, 3, 3, 0, 9, 1, 1))
        one, other = Chain(field, fee=0), Chain(field, fee=GREAT)
        self.assertEqual((one.worth(), other.worth()),
                         (best_texts(told_by(field), 0)[0], best_texts(told_by(field), GREAT)[0]))
        self.assertNotEqual(one.worth(), other.worth())


def bad_states():
    """Things that are none of the four states."""
    return strangers() + [True, False, 0, 1, -1, "", "a", "B", "O", "U", "Out", "OUT", "ou", "bo", "outs", " out", "in",
                          "out\n", "bou", (), ("out",), ("b",), STATES, "-"]


class WhatIsNotAsTold(unittest.TestCase):
    def test_what_chains_are_made_of(self):
        field = field_from(parts_of(1, 2, 3))
        assert_wrong(self, Chain, [field, 5], [NO_FIELDS, bad_great_prices()], ["fee"])
        assert_wrong(self, Chain, [field], [NO_FIELDS])
        self.assertEqual(told_by(field), parts_of(1, 2, 3))

    def test_the_fee_is_handed_in_by_name_alone(self):
        with self.assertRaises(TypeError):
            Chain(Field([], [], []), 1)

    def test_a_cell_and_a_state(self):
        chain = Chain(field_from(parts_of(1, 2, 3)))
        for at, to in [(0, 0), (2, 3), (3, 0), (0, 4), (9, 9)]:
            for state in STATES:
                assert_wrong(self, chain.bound, [at, to, state], [bad_places(), bad_places(), bad_states()])
        self.assertEqual(chain.text(), best_texts(parts_of(1, 2, 3), 1)[1][0])


if __name__ == "__main__":
    unittest.main()
