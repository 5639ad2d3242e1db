"""What stands in the nodes of a program, and which nodes they call ([2.5])."""

from everytick.errors import NotAllowed
from everytick.programs import are_different, is_small, node_named, parts_of, variables_in


def equations_of(node):
    """Return the list of all equations of a node, those of states too, in the order of the text."""
    found = []
    for entry in node[4]:
        if entry[0] == "states":
            for state in entry[1]:
                found.extend(state[1])
        else:
            found.append(entry)
    return found


def blocks_of(node):
    """Return the list of the blocks of a node."""
    return [entry for entry in node[4] if entry[0] == "states"]


def expressions_in(right):
    """Return the tuple of the expressions of a right side: of a call its arguments, then its reset."""
    if right[0] != "call":
        return (right,)
    if right[3] is None:
        return right[2]
    return (*right[2], right[3])


def parts_at(right):
    """Return the tuple of the parts of an expression or a call."""
    if right[0] == "call":
        return expressions_in(right)
    return parts_of(right)


def variables_of_equation(equation):
    """Return the ascending list of the variables on the left and the right side of an equation."""
    names, right = equation
    found = list(names)
    for expression in expressions_in(right):
        found.extend(variables_in(expression))
    return sorted(set(found))


def uses(node):
    """Return the ascending list of the names of the nodes that a node calls."""
    return sorted({right[1] for _, right in equations_of(node) if right[0] == "call"})


def needed(program):
    """Return the list of the names of the nodes that main needs, in the order of the program."""
    called = {node[0]: uses(node) for node in program[1]}
    found = {program[2]: True}
    rest = [program[2]]
    while rest:
        caller = rest.pop()
        for name in called.get(caller, []):
            if name not in found:
                found[name] = True
                rest.append(name)
    return [node[0] for node in program[1] if node[0] in found]


def without_unused(program):
    """Return the program with the nodes alone that main needs."""
    names = needed(program)
    sorts, nodes, main = program
    return (sorts, tuple([node for node in nodes if node[0] in names]), main)


def renamed(program, names):
    """Return the program with other names for the variables of main, as a dict tells them."""
    sorts, nodes, main = program
    node = node_named(program, main)
    fresh = {x: names.get(x, x) for x, _ in (*node[1], *node[2], *node[3])}
    for x in fresh:
        if not is_small(fresh[x]):
            raise NotAllowed("a new name is no small name")
    if not are_different(list(fresh.values())):
        raise NotAllowed("two variables would get one name")
    return (sorts, tuple([_renamed_node(fresh, row) if row[0] == main else row for row in nodes]), main)


def _renamed_node(fresh, node):
    name, inputs, outputs, rest, body = node
    declared = [tuple([(fresh[x], kind) for x, kind in row]) for row in (inputs, outputs, rest)]
    return (name, *declared, tuple([_renamed_entry(fresh, entry) for entry in body]))


def _renamed_entry(fresh, entry):
    if entry[0] == "states":
        return ("states", tuple([_renamed_state(fresh, state) for state in entry[1]]))
    names, right = entry
    return (tuple([fresh[x] for x in names]), renamed_right(fresh, right))


def _renamed_state(fresh, state):
    name, equations, unless, until = state
    return (
        name,
        tuple([_renamed_entry(fresh, equation) for equation in equations]),
        tuple([(renamed_expression(fresh, row[0]), row[1], row[2]) for row in unless]),
        tuple([(renamed_expression(fresh, row[0]), row[1], row[2]) for row in until]),
    )


def renamed_right(fresh, right):
    """Return a right side with its variables exchanged by a dict that has all of them as keys."""
    if right[0] != "call":
        return renamed_expression(fresh, right)
    _, node, args, reset = right
    if reset is not None:
        reset = renamed_expression(fresh, reset)
    return ("call", node, tuple([renamed_expression(fresh, arg) for arg in args]), reset)


def renamed_expression(fresh, expression):
    """Return an expression with its variables exchanged by a dict that has all of them as keys."""
    word = expression[0]
    if word == "const":
        return expression
    if word == "var":
        return ("var", fresh[expression[1]])
    if word == "when":
        _, part, name, label = expression
        return ("when", renamed_expression(fresh, part), fresh[name], label)
    if word == "merge":
        branches = [(label, renamed_expression(fresh, part)) for label, part in expression[2]]
        return ("merge", fresh[expression[1]], tuple(branches))
    return (word, *[renamed_expression(fresh, part) for part in expression[1:]])
