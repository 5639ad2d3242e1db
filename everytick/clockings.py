"""Clockings and clashes as certificates ([3.4], [3.7])."""

from everytick.exact import key_of
from everytick.kinds import kinds_in
from everytick.places import linked, links_in, places_of
from everytick.programs import is_tuple, is_value, node_named


def is_clocking(program, name, value):
    """Tell whether any value is a tuple with the clocks that a clocking gives to the places of a node, in order."""
    places = places_of(program, name)
    node = node_named(program, name)
    if not is_tuple(value, len(places), len(places)):
        return False
    if not all(_is_clock(program[0], kinds_in(node), clock) for clock in value):
        return False
    clocks = dict(zip(places, value))
    if not all([clocks[x] == () for x, _ in (*node[1], *node[2])]):
        return False
    links = links_in(program, name)
    return all([_agree(clocks, place, other, link) for place in links for other, link in links[place]])


def _is_clock(sorts, kinds, value):
    """Tell whether any value is a tuple of pairs of a variable and one of its values."""
    if not isinstance(value, tuple) or not all(is_tuple(pair, 2, 2) for pair in value):
        return False
    return all(isinstance(x, str) and x in kinds and is_value(sorts, kinds[x], v) for x, v in value)


def _agree(clocks, place, other, link):
    """Tell whether the clocks of two places are as a link from the first one to the other one asks for."""
    if link[0] == "below":
        return clocks[other] == (*clocks[place], link[1:])
    # A link above is looked at from its other end.
    return link[0] == "above" or clocks[other] == clocks[place]


def is_clash(program, name, value):
    """Tell whether any value is a chain of a node that is a clash."""
    keys = {key_of(place): True for place in places_of(program, name)}
    if not isinstance(value, tuple) or len(value) < 2 or not all([key_of(place) in keys for place in value]):
        return False
    links = [linked(program, name, place, other) for place, other in zip(value, value[1:])]
    return None not in links and _clashes(node_named(program, name), value, links)


def _clashes(node, chain, links):
    """Tell whether a chain with these links is a clash."""
    is_fixed = chain[0] in [x for x, _ in (*node[1], *node[2])]
    row = []
    for link in links:
        if link[0] == "below":
            row.append(link[1:])
        if link[0] == "above" and row:
            if row.pop() != link[1:]:
                return True
        elif link[0] == "above" and is_fixed:
            return True
    words = [link[0] for link in links]
    return chain[0] == chain[-1] and words.count("below") != words.count("above")
