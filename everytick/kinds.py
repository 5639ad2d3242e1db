"""Kinds of expressions, and the faults of programs ([2.1] to [2.4])."""

from everytick.definitions import definition_fault
from everytick.programs import has_word, is_value, marked, node_named, parts_of, values_of, variables_in
from everytick.uses import blocks_of, equations_of, expressions_in, variables_of_equation

MEMORIES = ("pre", "arrow", "fby")
LOGIC = ("not", "and", "or", "xor")


def kind_of(program, kinds, expression):
    """Return the kind of an expression, or None; kinds is a dict from variables to their kinds."""
    word = expression[0]
    if word == "const":
        return expression[2]
    if word == "var":
        return kinds.get(expression[1])
    found = [kind_of(program, kinds, part) for part in parts_of(expression)]
    if None in found:
        return None
    if word == "when":
        return _kind_of_when(program, kinds, expression, found[0])
    if word == "merge":
        return _kind_of_merge(program, kinds, expression, found)
    return _kind_of_parts(word, found)


def _kind_of_parts(word, found):
    """Return the kind of a tree by its word and the kinds of its parts."""
    if word in LOGIC:
        return "bool" if all(kind == "bool" for kind in found) else None
    if word == "if":
        return found[1] if found[0] == "bool" and found[1] == found[2] else None
    if word == "pre":
        return found[0]
    if found[0] != found[1]:
        return None
    if word in ("eq", "ne"):
        return "bool"
    if word in MEMORIES:
        return found[0]
    if found[0][0] != "mod":
        return None
    return "bool" if word in ("less", "leq") else found[0]


def _kind_of_when(program, kinds, expression, kind):
    _, part, name, label = expression
    sampler = kinds.get(name)
    if sampler is None or has_memory(part) or not is_value(program[0], sampler, label):
        return None
    return kind


def _kind_of_merge(program, kinds, expression, found):
    _, name, branches = expression
    chooser = kinds.get(name)
    if chooser is None or any(kind != found[0] for kind in found):
        return None
    labels = [marked(label) for label, _ in branches]
    if labels != [marked(label) for label in values_of(program[0], chooser)]:
        return None
    return found[0]


def has_memory(expression):
    """Tell whether pre, arrow or fby stands anywhere in an expression."""
    return has_word(expression, MEMORIES)


def kinds_in(node):
    """Return the dict from the variables of a node to their kinds."""
    return {x: kind for x, kind in (*node[1], *node[2], *node[3])}


def interface_of(program, name):
    """Return the pair of the tuples of the kinds of the inputs and of the outputs of a node."""
    node = node_named(program, name)
    return (tuple([kind for _, kind in node[1]]), tuple([kind for _, kind in node[2]]))


def have_same_interface(one, other):
    """Tell whether the main nodes of two programs have the same kinds, where sorts are told by their constructors."""
    return _unnamed_interface(one) == _unnamed_interface(other)


def _unnamed_interface(program):
    return [[_unnamed(program[0], kind) for kind in row] for row in interface_of(program, program[2])]


def _unnamed(sorts, kind):
    """Return a kind, where the name of a sort is exchanged for its constructors."""
    return ("sort", values_of(sorts, kind)) if kind[0] == "sort" else kind


def fits(program):
    """Tell whether a program has no fault."""
    return fault_of(program) is None


def fault_of(program):
    """Return the first fault of a program, or None."""
    found = _names_fault(program)
    at = 0
    while found is None and at < len(program[1]):
        found = _node_fault(program, at)
        at += 1
    return found


def _names_fault(program):
    names = [node[0] for node in program[1]]
    for k in range(len(names)):
        if names[k] in names[:k]:
            return ("node", names[k], k)
    if program[2] not in names:
        return ("main", "", 0)
    return None


def _node_fault(program, at):
    """Return the first fault of the node with this number, or None."""
    node = program[1][at]
    found = _double_fault(node)
    if found is None:
        found = _equation_fault(program, at)
    if found is None:
        found = _transition_fault(program, node)
    if found is None:
        found = definition_fault(node)
    return found


def _double_fault(node):
    names = [x for x, _ in (*node[1], *node[2], *node[3])]
    for k in range(len(names)):
        if names[k] in names[:k]:
            return ("double", node[0], k)
    return None


def _equation_fault(program, at):
    node = program[1][at]
    kinds = kinds_in(node)
    for k, equation in enumerate(equations_of(node)):
        word = _equation_word(program, at, kinds, equation)
        if word is not None:
            return (word, node[0], k)
    return None


def _equation_word(program, at, kinds, equation):
    """Return the word of the first fault of an equation of the node with this number, or None."""
    names, right = equation
    callees = [node for node in program[1][:at] if right[0] == "call" and node[0] == right[1]]
    if right[0] == "call" and not (callees and _is_called_well(callees[0], equation)):
        return "call"
    if any(x not in kinds for x in variables_of_equation(equation)):
        return "name"
    found = [kind_of(program, kinds, expression) for expression in expressions_in(right)]
    left = [kinds[x] for x in names]
    if not callees:
        return None if found == left else "kind"
    wanted = [kind for _, kind in callees[0][1]]
    if right[3] is not None:
        wanted.append("bool")
    return None if found == wanted and left == [kind for _, kind in callees[0][2]] else "kind"


def _is_called_well(node, equation):
    """Tell whether a call gives a node as many arguments and variables as it has inputs and outputs."""
    names, right = equation
    return len(right[2]) == len(node[1]) and len(names) == len(node[2])


def _transition_fault(program, node):
    kinds = kinds_in(node)
    at = 0
    for block in blocks_of(node):
        names = [state[0] for state in block[1]]
        for state in block[1]:
            for transition in (*state[2], *state[3]):
                word = _transition_word(program, kinds, names, transition)
                if word is not None:
                    return (word, node[0], at)
                at += 1
    return None


def _transition_word(program, kinds, names, transition):
    """Return the word of the first fault of a transition in a block of states with these names, or None."""
    condition, _, name = transition
    if name not in names:
        return "state"
    if any(x not in kinds for x in variables_in(condition)):
        return "name"
    if kind_of(program, kinds, condition) != "bool":
        return "kind"
    return None
