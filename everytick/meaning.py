"""The meaning of programs: instants, runs and traces ([4.1] to [4.8])."""

from everytick.instances import instant_of, main_plan, moments_of, run_of
from everytick.lowering import Lowering
from everytick.programs import is_tuple, is_value, node_named
from everytick.uses import expressions_in, needed


def beginning(program):
    """Return the beginning of main."""
    return main_plan(program).beginning


def is_row(program, value):
    """Tell whether any value is an input row of a program."""
    kinds = [kind for _, kind in node_named(program, program[2])[1]]
    if not is_tuple(value, len(kinds), len(kinds)):
        return False
    return all(is_value(program[0], kind, part) for kind, part in zip(kinds, value))


def is_state(program, value):
    """Tell whether any value is a state of main by its form."""
    forms = {}
    for name in needed(program):
        node = node_named(program, name)
        forms[name] = (_memories_of(program, node), _callees_of(node))
    return _is_state_of(program[0], forms, program[2], value)


def _memories_of(program, node):
    """Return the list of the kinds of what the memories of a node hold, None for an arrow."""
    lowering = Lowering(program, node)
    for _, right in node[4]:
        for expression in expressions_in(right):
            lowering.tree_of(expression)
    return lowering.memories


def _callees_of(node):
    """Return the list of the names of the nodes that a node calls, call by call."""
    return [right[1] for _, right in node[4] if right[0] == "call"]


def _is_state_of(sorts, forms, name, value):
    kinds, callees = forms[name]
    if not is_tuple(value, 2, 2):
        return False
    cells, calls = value
    if not is_tuple(cells, len(kinds), len(kinds)) or not is_tuple(calls, len(callees), len(callees)):
        return False
    if not all([_may_hold(sorts, kind, cell) for kind, cell in zip(kinds, cells)]):
        return False
    return all([_is_state_of(sorts, forms, callee, state) for callee, state in zip(callees, calls)])


def _may_hold(sorts, kind, value):
    """Tell whether a memory for values of a kind, or for None alone, may hold any value."""
    if not is_tuple(value, 0, 1):
        return False
    if value == () or value == (None,):
        return True
    return kind is not None and is_value(sorts, kind, value[0])


def instant(program, state, row):
    """Return the pair of the output row and the state behind an instant, or None if it is a fault."""
    moment = instant_of(main_plan(program), state, row)
    if moment is None:
        return None
    return (moment.outputs(), moment.state())


def run(program, rows):
    """Return the pair of the tuple of the output rows, and the number of the first fault or None."""
    return run_of(moments_of(main_plan(program), rows), rows)


def trace(program, rows):
    """Return a tuple with, for each instant before a fault, what the variables of main are."""
    node = node_named(program, program[2])
    names = [x for x, _ in (*node[1], *node[2], *node[3])]
    moments = moments_of(main_plan(program), rows)
    return tuple([tuple([_shown(moment.known, x) for x in names]) for moment in moments])


def _shown(known, x):
    return ("value", known[x]) if x in known else ("absent",)
