"""The meaning of programs: instants, runs and traces ([4.1] to [4.8])."""

from everytick.instances import instant_of, main_plan, moments_of, run_of
from everytick.programs import is_tuple, is_value, node_named
from everytick.state_forms import StateForms


def beginning(program):
    """Return the beginning of main."""
    return main_plan(program).beginning.tree


def is_row(program, value):
    """Tell whether any value is an input row of a program."""
    kinds = [kind for _, kind in node_named(program, program[2])[1]]
    if not is_tuple(value, len(kinds), len(kinds)):
        return False
    return all(is_value(program[0], kind, part) for kind, part in zip(kinds, value))


def is_state(program, value):
    """Tell whether any value is a state of main by its form."""
    return StateForms(program).is_state(value)


def instant(program, state, row):
    """Return the pair of the output row and the state behind an instant, or None if it is a fault."""
    plan = main_plan(program)
    moment = instant_of(plan, plan.pool.opened(state), row)
    if moment is None:
        return None
    return (moment.outputs(), moment.state().tree)


def run(program, rows):
    """Return the pair of the tuple of the output rows, and the number of the first fault or None."""
    return run_of(moments_of(main_plan(program), rows), rows)


def trace(program, rows):
    """Return a tuple with, for each instant before a fault, what the variables of main are."""
    node = node_named(program, program[2])
    names = [x for x, _ in (*node[1], *node[2], *node[3])]
    moments = moments_of(main_plan(program), rows)
    return tuple([tuple([_shown(moment.known, x) for x in names]) for moment in moments])


def _shown(known, x):
    return ("value", known[x]) if x in known else ("absent",)
