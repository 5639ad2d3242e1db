"""Which values are states of main by their form, and all of them ([4.2], [10.5])."""

from everytick.lowering import Lowering
from everytick.orders import choice_at, count_of
from everytick.programs import is_tuple, is_value, node_named, values_of
from everytick.uses import expressions_in, needed


class StateForms:
    """The forms of the states of the instances of main and of the nodes that it needs.

    For each node, those that it calls first, kinds has the list of the kinds of what its memories hold, None for an
    arrow, and callees the list of the names of the nodes that it calls, call by call.
    """

    def __init__(self, program):
        self.sorts = program[0]
        self.main = program[2]
        self.kinds = {}
        self.callees = {}
        for name in needed(program):
            node = node_named(program, name)
            self.kinds[name] = _memories_of(program, node)
            self.callees[name] = [right[1] for _, right in node[4] if right[0] == "call"]

    def is_state(self, value):
        """Tell whether any value is a state of main."""
        return self.is_state_of(self.main, value)

    def is_state_of(self, name, value):
        """Tell whether any value is a state of a node."""
        kinds = self.kinds[name]
        callees = self.callees[name]
        if not is_tuple(value, 2, 2):
            return False
        cells, calls = value
        if not is_tuple(cells, len(kinds), len(kinds)) or not is_tuple(calls, len(callees), len(callees)):
            return False
        if not all(self.may_hold(kind, cell) for kind, cell in zip(kinds, cells)):
            return False
        return all(self.is_state_of(callee, state) for callee, state in zip(callees, calls))

    def may_hold(self, kind, value):
        """Tell whether a memory for values of a kind, or for None alone, may hold any value."""
        if not is_tuple(value, 0, 1):
            return False
        if value == () or value == (None,):
            return True
        return kind is not None and is_value(self.sorts, kind, value[0])

    def holdings(self, kind):
        """Return the list of what a memory for values of a kind, or for None alone, may hold."""
        if kind is None:
            return [(), (None,)]
        return [(), (None,), *[(value,) for value in values_of(self.sorts, kind)]]

    def number_of_states(self, most):
        """Return the number of the states of main, or most + 1 if there are more than most."""
        found = {}
        for name in self.kinds:
            found[name] = 1
            factors = [len(self.holdings(kind)) for kind in self.kinds[name]]
            factors.extend([found[callee] for callee in self.callees[name]])
            for many in factors:
                found[name] = min(found[name] * many, most + 1)
        return found[self.main]

    def all_states(self):
        """Return the list of all states of main."""
        found = {}
        for name in self.kinds:
            choices = [self.holdings(kind) for kind in self.kinds[name]]
            many = len(choices)
            choices.extend([found[callee] for callee in self.callees[name]])
            rows = [choice_at(choices, k) for k in range(count_of(choices))]
            found[name] = [(row[:many], row[many:]) for row in rows]
        return found[self.main]


def _memories_of(program, node):
    """Return the list of the kinds of what the memories of a node hold, None for an arrow."""
    lowering = Lowering(program, node)
    for _, right in node[4]:
        for expression in expressions_in(right):
            lowering.tree_of(expression)
    return lowering.memories
