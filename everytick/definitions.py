"""What the equations of a node define, and the faults in it (the last part of [2.3])."""

from everytick.uses import blocks_of, equations_of


def homes_of(node):
    """Return a list with, for each equation, the numbers of its block and its state, or None outside of blocks."""
    found = []
    at = 0
    for entry in node[4]:
        if entry[0] == "states":
            for k, state in enumerate(entry[1]):
                found.extend([(at, k)] * len(state[1]))
            at += 1
        else:
            found.append(None)
    return found


def definition_fault(node):
    """Return the first fault in what a node defines, or None."""
    found = _input_fault(node)
    if found is None:
        found = _again_fault(node)
    if found is None:
        found = _states_fault(node)
    if found is None:
        found = _undefined_fault(node)
    return found


def _input_fault(node):
    inputs = [x for x, _ in node[1]]
    for k, (names, _) in enumerate(equations_of(node)):
        if any(x in inputs for x in names):
            return ("input", node[0], k)
    return None


def _again_fault(node):
    equations = equations_of(node)
    homes = homes_of(node)
    defined = {}
    for k in range(len(equations)):
        for x in equations[k][0]:
            before = defined.setdefault(x, [])
            if not all(_are_apart(home, homes[k]) for home in before):
                return ("again", node[0], k)
            before.append(homes[k])
    return None


def _are_apart(one, other):
    """Tell whether two equations stand in different states of one block."""
    return one is not None and other is not None and one[0] == other[0] and one[1] != other[1]


def _states_fault(node):
    for k, block in enumerate(blocks_of(node)):
        first = defined_in(block[1][0])
        if any(defined_in(state) != first for state in block[1]):
            return ("states", node[0], k)
    return None


def defined_in(state):
    """Return the ascending list of the variables that the equations of a state define."""
    return sorted({x for names, _ in state[1] for x in names})


def _undefined_fault(node):
    defined = [x for names, _ in equations_of(node) for x in names]
    for k, (x, _) in enumerate((*node[1], *node[2], *node[3])):
        if k >= len(node[1]) and x not in defined:
            return ("undefined", node[0], k)
    return None
