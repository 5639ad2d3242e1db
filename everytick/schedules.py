"""In which orders the equations of a node can be worked out ([5.4] to [5.6])."""

from heapq import heappop, heappush

from everytick.causality import BadRing, first_ring, needs
from everytick.programs import is_whole, node_named


def is_schedule(program, name, value):
    """Tell whether any value is a schedule of a node."""
    before = _equations_before(program, name)
    if not isinstance(value, tuple) or len(value) != len(before):
        return False
    if not all(is_whole(n, 0, len(before) - 1) for n in value):
        return False
    places = {n: k for k, n in enumerate(value)}
    if len(places) != len(before):
        return False
    return all([places[m] < places[n] for n in value for m in before[n]])


def _equations_before(program, name):
    """Return a list with, for each equation of a node, the ascending list of those that define what it needs."""
    body = node_named(program, name)[4]
    homes = {x: n for n, (names, _) in enumerate(body) for x in names}
    needed = dict(needs(program, name))
    return [sorted({homes[x] for x in needed[names[0]] if x in homes}) for names, _ in body]


def first_schedule(program, name):
    """Return the first schedule of a node; raise BadRing if it has none."""
    return _first_order(program, name, _equations_before(program, name))


def _first_order(program, name, before):
    waits = [len(row) for row in before]
    behind = [[] for _ in before]
    for n, row in enumerate(before):
        for m in row:
            behind[m].append(n)
    ready = [n for n in range(len(before)) if waits[n] == 0]
    found = []
    while ready:
        n = heappop(ready)
        found.append(n)
        for m in behind[n]:
            waits[m] -= 1
            if waits[m] == 0:
                heappush(ready, m)
    if len(found) < len(before):
        raise BadRing(name, first_ring(program, name))
    return tuple(found)


def rounds(program, name):
    """Return a tuple with the ascending tuple of the equations of each round; raise BadRing if there is a ring."""
    before = _equations_before(program, name)
    numbers = {}
    for n in _first_order(program, name, before):
        numbers[n] = max([numbers[m] + 1 for m in before[n]], default=0)
    found = [[] for _ in range(max(list(numbers.values())) + 1)]
    for n in range(len(before)):
        found[numbers[n]].append(n)
    return tuple([tuple(row) for row in found])


def swaps(one, other):
    """Return a tuple of as few numbers as possible at which swaps lead from a schedule to another one.

    Each swap exchanges two neighbours that stand the other way round in the other schedule. So neither of them
    needs the other, and behind the swap there is a schedule again.
    """
    ranks = {n: k for k, n in enumerate(other)}
    row = [ranks[n] for n in one]
    found = []
    for end in reversed(range(len(row))):
        for k in range(end):
            if row[k] > row[k + 1]:
                row[k], row[k + 1] = row[k + 1], row[k]
                found.append(k)
    return tuple(found)
