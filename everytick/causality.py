"""What variables need within an instant, and rings of such needs ([5.1] to [5.3])."""

from everytick.clocks import clash_of, clocks_of
from everytick.errors import TickError
from everytick.kinds import fits
from everytick.programs import node_named, parts_of, variable_at
from everytick.uses import blocks_of, expressions_in


class BadRing(TickError):
    """A node has a ring: node is its name, ring its first ring."""

    def __init__(self, node, ring):
        super().__init__(f"node {node} has a ring")
        self.node = node
        self.ring = ring


def at_once(right):
    """Return the ascending tuple of the variables that an expression or a call needs at once."""
    found = set()
    rest = list(expressions_in(right))
    while rest:
        tree = rest.pop()
        name = variable_at(tree)
        if name is not None:
            found.add(name)
        rest.extend(_parts_at_once(tree))
    return tuple(sorted(found))


def _parts_at_once(expression):
    """Return the parts of an expression without those that only the state behind the instant needs."""
    if expression[0] == "pre":
        return ()
    if expression[0] == "fby":
        return (expression[1],)
    return parts_of(expression)


def needs(program, name):
    """Return a tuple with the pair of each output and local of a node and the variables that it needs."""
    node = node_named(program, name)
    clocks = dict(clocks_of(program, name))
    found = {}
    for names, right in node[4]:
        direct = at_once(right)
        for x in names:
            found[x] = tuple(sorted(set([*direct, *clock_variables(clocks[x])])))
    return tuple([(x, found[x]) for x, _ in (*node[2], *node[3])])


def clock_variables(clock):
    """Return the list of the variables of a clock."""
    return [x for x, _ in clock]


def first_ring(program, name):
    """Return the first ring of a node, or None."""
    needed = dict(needs(program, name))
    needers = {x: [] for x in needed}
    for x in needed:
        for y in needed[x]:
            if y in needers:
                needers[y].append(x)
    found = None
    for start in needed:
        ring = _ring_from(needed, needers, start)
        if ring is not None and (found is None or (len(ring), ring) < (len(found), found)):
            found = ring
    return found


def _ring_from(needed, needers, start):
    """Return the first of the shortest rings that begin with a variable, or None."""
    distances = _distances(needers, start)
    left = min([distances[x] for x in needed[start] if x in distances], default=None)
    if left is None:
        return None
    ring = [start]
    while left > 0:
        ring.append([x for x in needed[ring[-1]] if distances.get(x) == left][0])
        left -= 1
    return tuple(ring)


def _distances(needers, goal):
    """Return a dict from the variables from which needs lead to a variable, to the least number of steps to it."""
    found = {goal: 0}
    queue = [goal]
    at = 0
    while at < len(queue):
        x = queue[at]
        at += 1
        for y in needers[x]:
            if y not in found:
                found[y] = found[x] + 1
                queue.append(y)
    return found


def ring_of(program):
    """Return None, or the pair of the name of the first node that has a ring and its first ring."""
    for node in program[1]:
        ring = first_ring(program, node[0])
        if ring is not None:
            return (node[0], ring)
    return None


def is_causal(program):
    """Tell whether no node of a program has a ring."""
    return ring_of(program) is None


def is_right(program):
    """Tell whether a program has no state machines, fits, is clocked and is causal."""
    if any([blocks_of(node) for node in program[1]]):
        return False
    return fits(program) and clash_of(program) is None and is_causal(program)
