"""Chains: stretches one behind another in both rows, each one for a fee."""

from laybeside.errors import refuse_no_place, refuse_wrong
from laybeside.fields import Field
from laybeside.kinds import STEPS, is_from_nought, is_great_price
from laybeside.paths import WHOLE, Steps, cell_behind

FEE = 1
OUT = "out"
STATES = ("out", "b", "o", "u")


def _is_state(thing):
    return isinstance(thing, str) and thing in STATES


def _cell_behind(at, to, sign):
    """The cell to which a sign leads: O leads as o does, and U as u."""
    return cell_behind(at, to, sign.lower())


class Signs:
    """The signs of a field's chains, for a fee: which lead on, and what they are worth."""

    def __init__(self, field, fee):
        self._steps = Steps(field, WHOLE)
        self._fee = fee

    def leading_on(self, at, to, state):
        """The signs that lead on from a cell, as texts go."""
        steps = self._steps.leading_on(at, to)
        left_out = steps.replace("b", "").upper()
        if state == OUT:
            steps = steps.replace("o", "").replace("u", "")
        return left_out + steps

    def worth(self, at, to, sign, state):
        """What a sign at a cell is worth, outside or behind b, o or u."""
        if sign not in STEPS:
            return 0
        if state == OUT:
            return self._steps.worth(at, to, "b", "b") - self._fee
        return self._steps.worth(at, to, sign, state)


def _bound_behind(table, at, to, sign):
    """The bound of the cell to which a sign leads, in the state behind it."""
    line, column = _cell_behind(at, to, sign)
    state = sign if sign in STEPS else OUT
    return table[line][column][STATES.index(state)]


def _bound_of(table, signs, at, to, state):
    """The most that signs from a cell on may be worth, by the bounds of the cells behind it."""
    leads = signs.leading_on(at, to, state)
    worths = [signs.worth(at, to, sign, state) + _bound_behind(table, at, to, sign) for sign in leads]
    return max(worths, default=0)


def _table_of(signs, high, wide):
    """The bounds of all cells, a tuple for each with one number for each state."""
    table = [[None] * (wide + 1) for _ in range(high + 1)]
    for at in range(high, -1, -1):
        for to in range(wide, -1, -1):
            table[at][to] = tuple([_bound_of(table, signs, at, to, state) for state in STATES])
    return table


def _first_sign(table, signs, at, to, state):
    """The first sign that leads on and meets the bound; None where there is none."""
    bound = table[at][to][STATES.index(state)]
    for sign in signs.leading_on(at, to, state):
        if signs.worth(at, to, sign, state) + _bound_behind(table, at, to, sign) == bound:
            return sign
    return None


class Chain:
    """The bounds of a field's chains, for a fee, with the worth and the text that meets them."""

    def __init__(self, field, *, fee=FEE):
        refuse_wrong([isinstance(field, Field), is_great_price(fee)])
        self._signs = Signs(field, fee)
        self._table = _table_of(self._signs, field.high(), field.wide())

    def bound(self, at, to, state):
        """The most that signs from a cell on may be worth, outside or behind b, o or u."""
        refuse_wrong([is_from_nought(at), is_from_nought(to), _is_state(state)])
        refuse_no_place(at, len(self._table))
        refuse_no_place(to, len(self._table[0]))
        return self._table[at][to][STATES.index(state)]

    def worth(self):
        """The most that a chain is worth."""
        return self._table[0][0][STATES.index(OUT)]

    def text(self):
        """The least text of the chains that are worth the most."""
        at = to = 0
        text = ""
        state = OUT
        while sign := _first_sign(self._table, self._signs, at, to, state):
            text += sign
            at, to = _cell_behind(at, to, sign)
            state = sign if sign in STEPS else OUT
        return text

    def told(self):
        """The stretches of that text, in order."""
        at = to = 0
        stretches = []
        inside = False
        for sign in self.text():
            if sign in STEPS:
                start, column, path = stretches.pop() if inside else (at, to, "")
                stretches.append((start, column, path + sign))
            inside = sign in STEPS
            at, to = _cell_behind(at, to, sign)
        return stretches
