"""What the statements of step machines read, and other numbers for their cells and parts."""

from everytick.lowering import NUMBERS


def statements_in(body):
    """Return the list of all statements of a body, those in cases too."""
    found = []
    rest = list(body)
    while rest:
        statement = rest.pop()
        found.append(statement)
        if statement[0] == "case":
            for _, inner in statement[2]:
                rest.extend(inner)
    return found


def reads_in(body):
    """Return a dict whose keys are the variables and the numbers of the cells that a body reads."""
    found = {}
    rest = []
    for statement in statements_in(body):
        if statement[0] == "case":
            found[statement[1]] = True
        rest.extend(_trees_of(statement))
    while rest:
        tree = rest.pop()
        if tree[0] in ("var", "cell", "select"):
            found[tree[1]] = True
        rest.extend(_parts_of(tree))
    return found


def called_in(body):
    """Return a dict whose keys are the numbers of the parts that a body calls."""
    return {statement[2]: True for statement in statements_in(body) if statement[0] == "call"}


def _trees_of(statement):
    """Return the list of the machine expressions directly in a statement."""
    if statement[0] == "case":
        return []
    if statement[0] != "call":
        return [statement[2]]
    _, _, _, args, reset = statement
    return list(args) if reset is None else [*args, reset]


def _parts_of(tree):
    """Return the list of the machine expressions directly in a machine expression."""
    word = tree[0]
    if word in ("const", "var", "cell"):
        return []
    if word == "select":
        return [part for _, part in tree[2]]
    return list(tree[2:]) if word in NUMBERS else list(tree[1:])


def renumbered(body, cells, parts):
    """Return a body with other numbers for its cells and parts, as two dicts tell them."""
    return tuple([_renumbered_statement(statement, cells, parts) for statement in body])


def _renumbered_statement(statement, cells, parts):
    word = statement[0]
    if word == "case":
        branches = [(v, renumbered(inner, cells, parts)) for v, inner in statement[2]]
        return (word, statement[1], tuple(branches))
    if word == "set":
        return (word, statement[1], _renumbered_tree(statement[2], cells))
    if word == "store":
        return (word, cells[statement[1]], _renumbered_tree(statement[2], cells))
    _, names, k, args, reset = statement
    if reset is not None:
        reset = _renumbered_tree(reset, cells)
    return (word, names, parts[k], tuple([_renumbered_tree(arg, cells) for arg in args]), reset)


def _renumbered_tree(tree, cells):
    word = tree[0]
    if word == "cell":
        return (word, cells[tree[1]])
    if word in ("const", "var"):
        return tree
    if word == "select":
        return (word, tree[1], tuple([(v, _renumbered_tree(part, cells)) for v, part in tree[2]]))
    head = tree[:2] if word in NUMBERS else tree[:1]
    return (*head, *[_renumbered_tree(part, cells) for part in _parts_of(tree)])
