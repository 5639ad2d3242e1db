"""Reading programs ([1.9], [1.11])."""

from everytick.lines import Lines
from everytick.programs import (
    MAX_ARGUMENTS, MAX_BODY, MAX_LEFT, MAX_MOD, MAX_NODES, MAX_STATE_EQUATIONS, MAX_STATES, MAX_TRANSITIONS,
    MAX_VARIABLES, are_sorts, is_small,
)
from everytick.reading import expression_from


def read_program(text):
    """Return the program of a text; raise BadText if it is none."""
    lines = Lines(text, ())
    while lines.word() == "sort":
        lines.know(sort_from(lines.take()))
    nodes = []
    while not nodes or lines.word() == "node":
        nodes.append(node_from(lines, len(nodes) < MAX_NODES))
    signs = lines.take()
    signs.need("main")
    main = signs.small()
    signs.finish()
    lines.finish()
    return (lines.sorts, tuple(nodes), main)


def sort_from(signs):
    """Take the line of a sort, which comes behind those that the signs know."""
    signs.need("sort")
    name = signs.great()
    signs.need("=")
    constructors = [signs.great()]
    while signs.look() == "|":
        signs.take()
        constructors.append(signs.great())
    signs.finish()
    sort = (name, tuple(constructors))
    signs.require(are_sorts((*signs.sorts, sort)))
    return sort


def node_from(lines, allowed):
    """Take the lines of a node, if one more is allowed."""
    signs = lines.take()
    signs.need("node")
    signs.require(allowed)
    name = signs.small()
    inputs = _in_parentheses(signs)
    signs.need("->")
    outputs = _in_parentheses(signs)
    signs.finish()
    many = len(inputs) + len(outputs)
    signs.require(outputs and many <= MAX_VARIABLES)
    rest = ()
    if lines.word() == "var":
        rest = _locals_from(lines.take(), MAX_VARIABLES - many)
    return (name, inputs, outputs, rest, _body_from(lines))


def _in_parentheses(signs):
    signs.need("(")
    found = ()
    if signs.look() != ")":
        found = _declared(signs)
    signs.need(")")
    return found


def _locals_from(signs, most):
    signs.need("var")
    found = _declared(signs)
    signs.finish()
    signs.require(len(found) <= most)
    return found


def _declared(signs):
    found = [_variable(signs)]
    while signs.look() == ",":
        signs.take()
        found.append(_variable(signs))
    return tuple(found)


def _variable(signs):
    name = signs.small()
    signs.need(":")
    return (name, kind_from(signs))


def kind_from(signs):
    """Take a kind."""
    sign = signs.take()
    if sign == "bool":
        return sign
    if sign == "mod":
        modulus = signs.number()
        signs.require(2 <= modulus <= MAX_MOD)
        return ("mod", modulus)
    signs.require(sign in [name for name, _ in signs.sorts])
    return ("sort", sign)


def _body_from(lines):
    """Take the equations and blocks of a node, and its line with end."""
    body = []
    while lines.word() != "end":
        signs = lines.take()
        signs.require(len(body) < MAX_BODY)
        if signs.look() == "states":
            body.append(_block_from(signs, lines))
        else:
            body.append(equation_from(signs))
    _end_from(lines, len(body) > 0)
    return tuple(body)


def _end_from(lines, allowed):
    signs = lines.take()
    signs.need("end")
    signs.finish()
    signs.require(allowed)


def equation_from(signs):
    """Take the line of an equation."""
    names = _left_from(signs)
    signs.need("=")
    if is_small(signs.look()) and signs.look(1) == "(":
        right = _call_from(signs)
    else:
        signs.require(len(names) == 1)
        right = expression_from(signs)
    signs.finish()
    return (names, right)


def _left_from(signs):
    if signs.look() != "(":
        return (signs.small(),)
    signs.take()
    names = [signs.small()]
    while signs.look() == ",":
        signs.take()
        names.append(signs.small())
    signs.need(")")
    signs.require(2 <= len(names) <= MAX_LEFT)
    return tuple(names)


def _call_from(signs):
    name = signs.small()
    signs.need("(")
    args = []
    if signs.look() != ")":
        args.append(expression_from(signs))
    while signs.look() == ",":
        signs.take()
        args.append(expression_from(signs))
    signs.need(")")
    signs.require(len(args) <= MAX_ARGUMENTS)
    reset = None
    if signs.look() == "every":
        signs.take()
        reset = expression_from(signs)
    return ("call", name, tuple(args), reset)


def _block_from(signs, lines):
    """Take the rest of the line with states, and the lines of a block behind it."""
    signs.need("states")
    signs.finish()
    states = []
    while lines.word() == "state":
        states.append(_state_from(lines, [state[0] for state in states]))
    _end_from(lines, len(states) >= 2)
    return ("states", tuple(states))


def _state_from(lines, taken):
    """Take the lines of a state, whose name is none of those that are taken."""
    signs = lines.take()
    signs.need("state")
    name = signs.great()
    signs.finish()
    signs.require(name not in taken and len(taken) < MAX_STATES)
    unless = _transitions_from(lines, "unless")
    equations = []
    while lines.word() not in ("until", "state", "end", ""):
        signs = lines.take()
        signs.require(len(equations) < MAX_STATE_EQUATIONS)
        equations.append(equation_from(signs))
    return (name, tuple(equations), unless, _transitions_from(lines, "until"))


def _transitions_from(lines, place):
    found = []
    while lines.word() == place:
        signs = lines.take()
        signs.require(len(found) < MAX_TRANSITIONS)
        found.append(_transition_from(signs, place))
    return tuple(found)


def _transition_from(signs, place):
    signs.need(place)
    condition = expression_from(signs)
    word = signs.take()
    signs.require(word in ("then", "continue"))
    name = signs.great()
    signs.finish()
    return (condition, word, name)
