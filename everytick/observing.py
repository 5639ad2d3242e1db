"""Claims and observed programs ([10.1], [10.2])."""

from everytick.causality import is_right
from everytick.fresh import Names
from everytick.programs import is_node, is_program, node_named


def is_claim_about(program, value):
    """Tell whether any value is a claim about a program.

    If it is a node, the rest shows in the observed program: that its name is new and it has no state machines, and,
    as it is called there, that it has the right inputs and one output of kind bool.
    """
    if not is_node(program[0], value):
        return False
    whole = observed_program(program, value)
    return is_program(whole) and is_right(whole)


def observed_program(program, claim):
    """Return the program in which a claim watches main."""
    sorts, nodes, main = program
    names = Names((program, claim))
    observer = names.fresh("see")
    told = names.fresh("ok")
    _, inputs, outputs, _, _ = node_named(program, main)
    args = tuple([("var", x) for x, _ in inputs])
    given = tuple([x for x, _ in outputs])
    body = (
        (given, ("call", main, args, None)),
        ((told,), ("call", claim[0], (*args, *[("var", x) for x in given]), None)),
    )
    return (sorts, (*nodes, claim, (observer, inputs, ((told, "bool"),), outputs, body)), observer)
