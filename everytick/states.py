"""State machines: the rules that blocks keep to, and their translation to equations ([6.1], [6.2], [6.5])."""

from everytick.causality import at_once
from everytick.definitions import defined_in
from everytick.fresh import Names
from everytick.kinds import MEMORIES
from everytick.programs import has_word, is_block, variables_in
from everytick.translation import Translation
from everytick.uses import blocks_of, expressions_in

SAMPLERS = ("when", "merge")


def has_blocks(program):
    """Tell whether a block stands in a program."""
    return any([len(blocks_of(node)) > 0 for node in program[1]])


def are_blocks(program):
    """Tell whether the blocks of a program keep to the rules, but for those on kinds and clocks."""
    for node in program[1]:
        for k, entry in enumerate(node[4]):
            if entry[0] == "states" and not (is_block(program[0], entry) and _keeps_rules(node, k)):
                return False
    return True


def _keeps_rules(node, k):
    """Tell whether the block that stands at an index in the body of a node keeps to the rules."""
    block = node[4][k]
    names = defined_in(block[1][0])
    if not names or not all(_defines_once(state, names) for state in block[1]):
        return False
    free = [x for x, _ in (*node[2], *node[3])]
    if any(x not in free or x in _defined_outside(node, k) for x in names):
        return False
    if not all(_are_unsampled(state) and _leads_well(block, state) for state in block[1]):
        return False
    return not any(x in names for x in _needed_ahead(node, block))


def _defines_once(state, names):
    """Tell whether the equations of a state define these variables, given in order, each of them once."""
    left = [x for row, _ in state[1] for x in row]
    return sorted(left) == names


def _defined_outside(node, k):
    """Return the list of the variables that a node defines outside of the entry at an index."""
    found = []
    for n, entry in enumerate(node[4]):
        if n != k and entry[0] == "states":
            found.extend([x for state in entry[1] for x in defined_in(state)])
        elif n != k:
            found.extend(entry[0])
    return found


def _are_unsampled(state):
    """Tell whether no when and no merge stands in the equations of a state."""
    expressions = [expression for _, right in state[1] for expression in expressions_in(right)]
    return not any(has_word(expression, SAMPLERS) for expression in expressions)


def _leads_well(block, state):
    """Tell whether the transitions of a state have plain conditions and lead to states of its block."""
    names = [row[0] for row in block[1]]
    for condition, _, name in (*state[2], *state[3]):
        if name not in names or has_word(condition, (*MEMORIES, *SAMPLERS)):
            return False
    return True


def _needed_ahead(node, block):
    """Return a dict whose keys are the variables that the unless conditions of a block need within an instant."""
    needed = _needed_by_entries(node)
    rest = _unless_variables(block)
    found = {}
    while rest:
        x = rest.pop()
        if x not in found:
            found[x] = True
            rest.extend(needed.get(x, []))
    return found


def _needed_by_entries(node):
    """Return a dict from the variables that a node defines to the lists of those that they need, clocks left out.

    A variable on a clock is needed only together with the merge that its clock comes from, which needs the
    variables of the clock.
    """
    found = {}
    for entry in node[4]:
        if entry[0] == "states":
            equations = [equation for state in entry[1] for equation in state[1]]
            ahead = _unless_variables(entry)
        else:
            equations = [entry]
            ahead = []
        for names, right in equations:
            for x in names:
                found.setdefault(x, []).extend([*ahead, *at_once(right)])
    return found


def _unless_variables(block):
    """Return the list of the variables of the unless conditions of a block."""
    return [x for state in block[1] for row in state[2] for x in variables_in(row[0])]


def translated(program):
    """Return the translation of a program: the program itself if it has no blocks."""
    if not has_blocks(program):
        return program
    names = Names(program)
    sorts = list(program[0])
    nodes = []
    for node in program[1]:
        parts = [Translation(names, node, block) for block in blocks_of(node)]
        for part in parts:
            sorts.append(part.new_sort())
            nodes.extend(part.nodes)
        nodes.append(_exchanged(node, parts))
    return (tuple(sorts), tuple(nodes), program[2])


def _exchanged(node, parts):
    """Return a node in which each block is exchanged for its translation."""
    added = [pair for part in parts for pair in part.declared()]
    body = []
    at = 0
    for entry in node[4]:
        if entry[0] == "states":
            body.extend(parts[at].equations())
            at += 1
        else:
            body.append(entry)
    return (*node[:3], (*node[3], *added), tuple(body))
