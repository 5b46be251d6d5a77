"""Ways: all paths that are worth the most, counted and numbered as their texts rise."""

from laybeside.bounds import meeting_steps, table_of
from laybeside.errors import NoNumber, NotBest, Unlike, refuse_wrong
from laybeside.fields import Field
from laybeside.kinds import STEPS, are_ends, is_from_nought, is_path
from laybeside.paths import WHOLE, Steps, cell_behind, fits

# A state is a cell with the step ahead, b for none.
START = (0, 0, "b")


def _state_behind(state, step):
    """The state to which a step leads."""
    at, to, _ = state
    line, column = cell_behind(at, to, step)
    return line, column, step


def _leads_of(field, ends):
    """For each state, rising, the steps by which paths that are worth the most may go on from there."""
    steps = Steps(field, ends)
    table = table_of(steps, False)
    return {
        (at, to, ahead): meeting_steps(table, steps, at, to, ahead)
        for at in range(field.high() + 1) for to in range(field.wide() + 1) for ahead in STEPS
    }


def _counts_of(leads):
    """For each state, how many such paths go on from there."""
    counts = {}
    for state in reversed(list(leads)):
        behind = [counts[_state_behind(state, step)] for step in leads[state]]
        # From the last cell no step leads on: there each path is whole.
        counts[state] = sum(behind) if behind else 1
    return counts


def _arrivals_of(leads):
    """For each state, how many such paths come to it from the start."""
    arrivals = {state: 0 for state in leads}
    arrivals[START] = 1
    for state in leads:
        for step in leads[state]:
            arrivals[_state_behind(state, step)] += arrivals[state]
    return arrivals


class Ways:
    """The paths of a field, some ends given, that are worth the most."""

    def __init__(self, field, *, ends=WHOLE):
        refuse_wrong([isinstance(field, Field), are_ends(ends)])
        self._field = field
        self._leads = _leads_of(field, ends)
        self._counts = _counts_of(self._leads)

    def many(self):
        """How many there are."""
        return self._counts[START]

    def path_at(self, number):
        """The path with a number, counted from 0, as they rise."""
        refuse_wrong([is_from_nought(number)])
        if number >= self.many():
            raise NoNumber(number)
        path = ""
        state = START
        left = number
        while self._leads[state]:
            step, left = self._step_at(state, left)
            path += step
            state = _state_behind(state, step)
        return path

    def _step_at(self, state, number):
        """The step by which the path with a number goes on, and its number among those that take this step."""
        for step in self._leads[state]:
            many = self._counts[_state_behind(state, step)]
            if number < many:
                break
            number -= many
        return step, number

    def number_of(self, path):
        """The number of a path."""
        refuse_wrong([is_path(path)])
        if not fits(self._field, path):
            raise Unlike()
        number = 0
        state = START
        for step in path:
            leads = self._leads[state]
            if step not in leads:
                raise NotBest()
            # Those that take an earlier step here stand ahead of this path.
            earlier = leads[:leads.index(step)]
            number += sum([self._counts[_state_behind(state, other)] for other in earlier])
            state = _state_behind(state, step)
        return number

    def in_all(self):
        """The pairs that stand together in all of these paths."""
        return [pair for pair, many in self._pair_counts().items() if many == self.many()]

    def in_some(self):
        """The pairs that stand together in one or more of them."""
        return [pair for pair, many in self._pair_counts().items() if many > 0]

    def _pair_counts(self):
        """For pairs, rising, in how many of these paths they stand together."""
        arrivals = _arrivals_of(self._leads)
        pairs = {}
        for state in self._leads:
            if "b" in self._leads[state]:
                at, to, _ = state
                many = arrivals[state] * self._counts[_state_behind(state, "b")]
                pairs[(at, to)] = pairs.get((at, to), 0) + many
        return pairs
