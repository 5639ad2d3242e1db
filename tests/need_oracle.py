"""What [5.1] to [5.5] and [5.7] say, written down a second time and with no thought of speed."""

import itertools

from tests.clock_oracle import least_clocking, parts


def at_once(tree):
    """The set of the variables that an expression or a call needs at once."""
    if tree[0] in ("const", "pre"):
        return set()
    if tree[0] == "var":
        return {tree[1]}
    if tree[0] == "fby":
        return at_once(tree[1])
    own = {tree[2]} if tree[0] == "when" else {tree[1]} if tree[0] == "merge" else set()
    return own.union(*[at_once(part) for part in parts(tree)])


def needs(node):
    """A dict from the outputs and locals of a node to the sets of what they need."""
    clocks = least_clocking(node)
    return {x: at_once(right) | {y for y, _ in clocks[x]} for names, right in node[4] for x in names}


def first_ring(node):
    """The first of the shortest rings: all tuples are tried, the short ones first."""
    needed = needs(node)
    names = sorted(needed)
    for many in range(1, len(names) + 1):
        for ring in itertools.permutations(names, many):
            if all(y in needed[x] for x, y in zip(ring, ring[1:] + ring[:1])):
                return ring
    return None


def before(node):
    """For each equation the set of the equations that define what it needs."""
    homes = {x: n for n, (names, _) in enumerate(node[4]) for x in names}
    needed = needs(node)
    return [{homes[x] for x in needed[names[0]] if x in homes} for names, _ in node[4]]


def is_schedule(rows, row):
    """Whether a permutation is a schedule, where rows tells what before does."""
    return all(row.index(m) < row.index(n) for n in row for m in rows[n])


def schedules(node):
    """All schedules of a node, ascending."""
    rows = before(node)
    return [row for row in itertools.permutations(range(len(rows))) if is_schedule(rows, row)]


def reaches(program, name):
    """A dict from the outputs of a node to the sets of the inputs that they reach: the least solution."""
    node = [row for row in program[1] if row[0] == name][0]
    clocks = least_clocking(node)
    reached = {x: {x} for x, _ in node[1]}
    reached.update({x: set() for names, _ in node[4] for x in names})
    while True:
        old = {x: set(reached[x]) for x in reached}
        for names, right in node[4]:
            for k, x in enumerate(names):
                ways = {y for y, _ in clocks[x]}
                if right[0] != "call":
                    ways |= at_once(right)
                else:
                    callee = [row for row in program[1] if row[0] == right[1]][0]
                    inner = reaches(program, right[1])[callee[2][k][0]]
                    ways |= set() if right[3] is None else at_once(right[3])
                    for (a, _), arg in zip(callee[1], right[2]):
                        ways |= at_once(arg) if a in inner else set()
                for y in ways:
                    reached[x] |= reached[y]
        if old == reached:
            return {x: reached[x] for x, _ in node[2]}
