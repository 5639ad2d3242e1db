"""The places of a node, and the links between them ([3.2], [3.3])."""

from everytick.programs import node_named
from everytick.uses import parts_at


def places_of(program, name):
    """Return the tuple of the places of a node: its variables, then those of its right sides."""
    _, inputs, outputs, rest, body = node_named(program, name)
    found = [x for x, _ in (*inputs, *outputs, *rest)]
    for n, (_, right) in enumerate(body):
        found.extend(_places_in(n, right))
    return tuple(found)


def _places_in(n, right):
    """Return the list of the places of a right side, each one before its parts."""
    found = []
    rest = [((), right)]
    while rest:
        way, tree = rest.pop()
        found.append((n, way))
        parts = parts_at(tree)
        for j in reversed(range(len(parts))):
            rest.append(((*way, j), parts[j]))
    return found


def expression_at(program, name, place):
    """Return the expression or the call at a place of a node."""
    return _tree_at(node_named(program, name), place)


def _tree_at(node, place):
    if isinstance(place, str):
        return ("var", place)
    n, way = place
    tree = node[4][n][1]
    for j in way:
        tree = parts_at(tree)[j]
    return tree


def linked(program, name, one, other):
    """Tell how two places of a node are linked, or return None if they are not."""
    node = node_named(program, name)
    if other in _earlier(node, one):
        return _link(node, one, other)
    if one in _earlier(node, other):
        return turned(_link(node, other, one))
    return None


def turned(link):
    """Return a link as it is seen from its other end."""
    if link[0] == "even":
        return link
    word, x, v = link
    return ("above" if word == "below" else "below", x, v)


def links_in(program, name):
    """Return a dict with, for each place of a node, the list of the pairs of a place and the link to it."""
    node = node_named(program, name)
    places = places_of(program, name)
    found = {place: [] for place in places}
    for place in places:
        for other in _earlier(node, place):
            link = _link(node, place, other)
            found[place].append((other, link))
            found[other].append((place, turned(link)))
    return found


def _earlier(node, place):
    """Return the list of the places, earlier than a place, with which it is linked.

    Each link has an earlier end: a variable, or the expression around the other end.
    """
    if isinstance(place, str):
        return []
    n, way = place
    tree = _tree_at(node, place)
    found = [tree[1]] if tree[0] in ("var", "merge") else []
    if way == ():
        return [*found, *node[4][n][0]]
    around = _tree_at(node, (n, way[:-1]))
    if around[0] == "when":
        found.append(around[2])
    return [*found, (n, way[:-1])]


def _link(node, place, other):
    """Return the link from a place to an earlier one with which it is linked."""
    if isinstance(other, str):
        return ("even",)
    around = _tree_at(node, other)
    if around[0] == "when":
        return ("below", around[2], around[3])
    if around[0] == "merge":
        label, _ = around[2][place[1][-1]]
        return ("above", around[1], label)
    return ("even",)
