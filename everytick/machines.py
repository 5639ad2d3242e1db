"""Finite machines of programs ([9.1] to [9.4])."""

from everytick.errors import TooMany
from everytick.exact import key_of
from everytick.instances import instant_of, main_plan
from everytick.orders import MAX_ROWS, choice_at, count_of, input_choices
from everytick.programs import are_different, is_tuple, is_whole
from everytick.walks import Walk


def input_rows(program):
    """Return the tuple of all input rows of a program, in order; raise TooMany if there are too many."""
    choices = input_choices(program)
    if count_of(choices) > MAX_ROWS:
        raise TooMany("there are too many input rows")
    return tuple([choice_at(choices, k) for k in range(count_of(choices))])


def machine_of(program, limit):
    """Return the machine of a program; raise TooMany if it has too many rows, or more states than the limit."""
    rows, _, table = explored(program, limit)
    return (rows, table)


def explored(program, limit):
    """Return the input rows of a program, the list of the states that can be reached, and the table of its machine."""
    rows = input_rows(program)
    plan = main_plan(program)
    found = Numbering(limit)
    found.number_of(plan.beginning)
    table = []
    while len(table) < len(found.states):
        state = found.states[len(table)]
        table.append(tuple([_entry(found, instant_of(plan, state, row)) for row in rows]))
    return (rows, [state.tree for state in found.states], tuple(table))


def _entry(found, moment):
    """Return what stands in a table for a moment."""
    if moment is None:
        return None
    return (moment.outputs(), found.number_of(moment.state()))


class Numbering:
    """States, numbered as they are come to, at most as many as the limit."""

    def __init__(self, limit):
        self.limit = limit
        self.states = []
        self.numbers = {}

    def number_of(self, state):
        """Return the number of a state; raise TooMany if it is one more than the limit."""
        if state not in self.numbers:
            if len(self.states) >= self.limit:
                raise TooMany("there are too many states")
            self.numbers[state] = len(self.states)
            self.states.append(state)
        return self.numbers[state]


def is_machine(value):
    """Tell whether any value is a machine."""
    if not is_tuple(value, 2, 2):
        return False
    rows, table = value
    if not _are_tuples(rows) or not are_different([key_of(row) for row in rows]) or not _are_tuples(table):
        return False
    if not all(len(entries) == len(rows) for entries in table):
        return False
    if not all(_is_entry(entry, len(table)) for entries in table for entry in entries):
        return False
    return _are_numbered(table)


def _are_tuples(value):
    """Tell whether any value is a tuple of one or more tuples."""
    return isinstance(value, tuple) and len(value) > 0 and all(isinstance(part, tuple) for part in value)


def _is_entry(value, many):
    """Tell whether any value may stand in the table of a machine with so many states."""
    if value is None:
        return True
    return is_tuple(value, 2, 2) and isinstance(value[0], tuple) and is_whole(value[1], 0, many - 1)


def _are_numbered(table):
    """Tell whether all states are reached, and numbered as they are come to."""
    met = 1
    for s, entries in enumerate(table):
        if s >= met:
            return False
        for entry in entries:
            if entry is not None and entry[1] >= met:
                if entry[1] > met:
                    return False
                met += 1
    return True


def run_machine(machine, indexes):
    """Return the pair of the tuple of the outputs of a run, and the number of the first fault or None."""
    _, table = machine
    state = 0
    found = []
    for r in indexes:
        entry = table[state][r]
        if entry is None:
            return (tuple(found), len(found))
        outputs, state = entry
        found.append(outputs)
    return (tuple(found), None)


def first_fault(machine):
    """Return the first fault of a machine, a tuple of numbers of rows, or None."""
    return first_way_out(machine[1], None)


def first_way_out(table, wanted):
    """Return the first of the shortest tuples of numbers of rows that end in a fault, or in other outputs than wanted.

    With None as wanted any outputs will do. The answer is None if there is no such tuple.
    """
    walk = Walk(0)
    while not walk.is_over():
        state = walk.take()
        for r, entry in enumerate(table[state]):
            if entry is None or (wanted is not None and entry[0] != wanted):
                return walk.way_to(state, r)
            walk.come_to(entry[1], state, r)
    return None
