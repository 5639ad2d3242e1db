"""The form of programs: names, kinds, expressions, equations, blocks and nodes ([1.1] to [1.8])."""

SMALL = "abcdefghijklmnopqrstuvwxyz"
GREAT = "ABCDEFGHIJKLMNOPQRSTUVWXYZ"
DIGITS = "0123456789"
LETTERS = "abcdefghijklmnopqrstuvwxyzABCDEFGHIJKLMNOPQRSTUVWXYZ0123456789"

WORDS = (
    "and", "bool", "continue", "else", "end", "every", "false", "fby", "if", "is", "main", "merge", "mod",
    "node", "not", "or", "pre", "sort", "state", "states", "then", "true", "unless", "until", "var", "when", "xor",
)

MAX_NAME = 8
MAX_SORTS = 8
MAX_CONSTRUCTORS = 8
MAX_MOD = 32
MAX_NODES = 12
MAX_VARIABLES = 24
MAX_BODY = 40
MAX_LEFT = 8
MAX_ARGUMENTS = 12
MAX_DEPTH = 20
MAX_BRANCHES = 32
MAX_STATES = 6
MAX_STATE_EQUATIONS = 24
MAX_TRANSITIONS = 4

# How many expressions follow the word of a tree in which nothing but expressions follows it.
PLAIN_PARTS = {
    "not": 1, "and": 2, "or": 2, "xor": 2, "eq": 2, "ne": 2, "less": 2, "leq": 2,
    "add": 2, "sub": 2, "mul": 2, "if": 3, "pre": 1, "arrow": 2, "fby": 2,
}


def is_small(value):
    """Tell whether any value is a small name."""
    return isinstance(value, str) and _is_made_of(value, SMALL, SMALL + DIGITS) and value not in WORDS


def is_great(value):
    """Tell whether any value is a great name."""
    return isinstance(value, str) and _is_made_of(value, GREAT, LETTERS)


def _is_made_of(text, first, rest):
    if not 1 <= len(text) <= MAX_NAME:
        return False
    return text[0] in first and all(sign in rest for sign in text)


def is_whole(value, low, high):
    """Tell whether any value is an integer, not a bool, from low to high."""
    return isinstance(value, int) and not isinstance(value, bool) and low <= value <= high


def is_tuple(value, least, most):
    """Tell whether any value is a tuple with so many items."""
    return isinstance(value, tuple) and least <= len(value) <= most


def are_different(texts):
    """Tell whether no text comes twice in a list."""
    return len(set(texts)) == len(texts)


def is_kind(sorts, value):
    """Tell whether any value is a kind of a program with these sorts."""
    if isinstance(value, str):
        return value == "bool"
    if not is_tuple(value, 2, 2):
        return False
    if value[0] == "mod":
        return is_whole(value[1], 2, MAX_MOD)
    return value[0] == "sort" and value[1] in [name for name, _ in sorts]


def values_of(sorts, kind):
    """Return the tuple of the values of a kind, in their order."""
    if kind == "bool":
        return (False, True)
    if kind[0] == "mod":
        return tuple(range(kind[1]))
    found = ()
    for name, constructors in sorts:
        if name == kind[1]:
            found = constructors
    return found


def is_value(sorts, kind, value):
    """Tell whether any value is one of the values of a kind."""
    if kind == "bool":
        return isinstance(value, bool)
    if kind[0] == "mod":
        return is_whole(value, 0, kind[1] - 1)
    return value in values_of(sorts, kind)


def is_label(value):
    """Tell whether any value may stand as v in a when or a merge."""
    return isinstance(value, bool) or is_whole(value, 0, MAX_MOD - 1) or is_great(value)


def marked(value):
    """Return a pair for a value that tells True from 1 and False from 0."""
    return (isinstance(value, bool), value)


def are_labels(labels):
    """Tell whether values that may stand as v may do so in one merge."""
    if not 2 <= len(labels) <= MAX_BRANCHES:
        return False
    return len({marked(label) for label in labels}) == len(labels)


def is_expression(sorts, value):
    """Tell whether any value is an expression of a program with these sorts."""
    return _is_tree(sorts, value, MAX_DEPTH)


def _is_tree(sorts, value, room):
    if room == 0 or not isinstance(value, tuple) or not value or not isinstance(value[0], str):
        return False
    word = value[0]
    if word == "const":
        return len(value) == 3 and is_kind(sorts, value[2]) and is_value(sorts, value[2], value[1])
    if word == "var":
        return len(value) == 2 and is_small(value[1])
    if word == "when":
        if len(value) != 4 or not is_small(value[2]) or not is_label(value[3]):
            return False
    elif word == "merge":
        if len(value) != 3 or not is_small(value[1]) or not _are_branches(value[2]):
            return False
    elif word not in PLAIN_PARTS or len(value) != PLAIN_PARTS[word] + 1:
        return False
    return all(_is_tree(sorts, part, room - 1) for part in parts_of(value))


def _are_branches(value):
    if not isinstance(value, tuple) or not all(is_tuple(branch, 2, 2) for branch in value):
        return False
    labels = [label for label, _ in value]
    return all(is_label(label) for label in labels) and are_labels(labels)


def parts_of(expression):
    """Return the tuple of the expressions directly in an expression, from left to right."""
    word = expression[0]
    if word in PLAIN_PARTS:
        return expression[1:]
    if word == "when":
        return (expression[1],)
    if word == "merge":
        return tuple([part for _, part in expression[2]])
    return ()


def variable_at(expression):
    """Return the variable that an expression names outside of its parts, or None."""
    word = expression[0]
    if word == "var" or word == "merge":
        return expression[1]
    if word == "when":
        return expression[2]
    return None


def variables_in(expression):
    """Return the ascending list of the names of the variables in an expression."""
    found = set()
    rest = [expression]
    while rest:
        tree = rest.pop()
        name = variable_at(tree)
        if name is not None:
            found.add(name)
        rest.extend(parts_of(tree))
    return sorted(found)


def has_word(expression, words):
    """Tell whether one of some words stands anywhere in an expression."""
    rest = [expression]
    while rest:
        tree = rest.pop()
        if tree[0] in words:
            return True
        rest.extend(parts_of(tree))
    return False


def is_sort(value):
    """Tell whether any value is a sort."""
    if not is_tuple(value, 2, 2) or not is_great(value[0]):
        return False
    return is_tuple(value[1], 2, MAX_CONSTRUCTORS) and all(is_great(name) for name in value[1])


def are_sorts(value):
    """Tell whether any value is the tuple of the sorts of a program."""
    if not is_tuple(value, 0, MAX_SORTS) or not all(is_sort(sort) for sort in value):
        return False
    names = [name for name, _ in value]
    constructors = [name for _, row in value for name in row]
    return are_different(names) and are_different(constructors)


def is_equation(sorts, value):
    """Tell whether any value is an equation."""
    if not is_tuple(value, 2, 2):
        return False
    names, right = value
    if not is_tuple(names, 1, MAX_LEFT) or not all(is_small(name) for name in names):
        return False
    return _is_call(sorts, right) or (len(names) == 1 and is_expression(sorts, right))


def _is_call(sorts, value):
    if not is_tuple(value, 4, 4) or value[0] != "call" or not is_small(value[1]):
        return False
    args, reset = value[2:]
    if not is_tuple(args, 0, MAX_ARGUMENTS) or not all(is_expression(sorts, arg) for arg in args):
        return False
    return reset is None or is_expression(sorts, reset)


def is_block(sorts, value):
    """Tell whether any value is a block."""
    if not is_tuple(value, 2, 2) or value[0] != "states" or not is_tuple(value[1], 2, MAX_STATES):
        return False
    if not all(_is_state(sorts, state) for state in value[1]):
        return False
    return are_different([state[0] for state in value[1]])


def _is_state(sorts, value):
    if not is_tuple(value, 4, 4):
        return False
    name, equations, unless, until = value
    if not is_great(name) or not is_tuple(equations, 0, MAX_STATE_EQUATIONS):
        return False
    if not all(is_equation(sorts, equation) for equation in equations):
        return False
    return _are_transitions(sorts, unless) and _are_transitions(sorts, until)


def _are_transitions(sorts, value):
    return is_tuple(value, 0, MAX_TRANSITIONS) and all(_is_transition(sorts, row) for row in value)


def _is_transition(sorts, value):
    if not is_tuple(value, 3, 3) or not is_expression(sorts, value[0]):
        return False
    return value[1] in ("then", "continue") and is_great(value[2])


def is_node(sorts, value):
    """Tell whether any value is a node of a program with these sorts."""
    if not is_tuple(value, 5, 5) or not is_small(value[0]):
        return False
    _, inputs, outputs, rest, body = value
    if not all(_are_declared(sorts, row) for row in (inputs, outputs, rest)):
        return False
    if not outputs or len(inputs) + len(outputs) + len(rest) > MAX_VARIABLES:
        return False
    if not is_tuple(body, 1, MAX_BODY):
        return False
    return all(is_equation(sorts, entry) or is_block(sorts, entry) for entry in body)


def _are_declared(sorts, value):
    return isinstance(value, tuple) and all(_is_declared(sorts, entry) for entry in value)


def _is_declared(sorts, value):
    return is_tuple(value, 2, 2) and is_small(value[0]) and is_kind(sorts, value[1])


def is_program(value):
    """Tell whether any value has the form of a program."""
    if not is_tuple(value, 3, 3) or not are_sorts(value[0]):
        return False
    sorts, nodes, main = value
    if not is_tuple(nodes, 1, MAX_NODES) or not is_small(main):
        return False
    return all(is_node(sorts, node) for node in nodes)


def node_named(program, name):
    """Return the first node of a program with a name, or None."""
    for node in program[1]:
        if node[0] == name:
            return node
    return None
