"""The least clocking of a node, or a chain that is a clash ([3.4] to [3.9])."""

from everytick.errors import TickError
from everytick.places import links_in
from everytick.programs import node_named

# How many pairs longer the clock becomes by a step along a link.
STEPS = {"even": 0, "below": 1, "above": -1}


class BadClock(TickError):
    """A node is not clocked: node is its name, chain a clash of it."""

    def __init__(self, node, chain):
        super().__init__(f"node {node} is not clocked")
        self.node = node
        self.chain = chain


def clash_of(program):
    """Return None, or the pair of the name of the first node that is not clocked and a clash of it."""
    for node in program[1]:
        try:
            place_clocks(program, node[0])
        except BadClock as bad:
            return (bad.node, bad.chain)
    return None


def clocks_of(program, name):
    """Return a tuple with the pair of the name and the clock of each variable of a node."""
    clocks = place_clocks(program, name)
    _, inputs, outputs, rest, _ = node_named(program, name)
    return tuple([(x, clocks[x]) for x, _ in (*inputs, *outputs, *rest)])


def place_clocks(program, name):
    """Return the dict from the places of a node to their clocks; raise BadClock if it is not clocked."""
    links = links_in(program, name)
    node = node_named(program, name)
    fixed = [x for x, _ in (*node[1], *node[2])]
    clocks = {}
    for place in links:
        if place not in clocks:
            depths = _depths(name, links, place)
            _look_above(name, links, depths, fixed)
            _spread(name, links, _first_least(depths), clocks)
    return {place: clocks[place] for place in links}


def _search(links, start):
    """Return a dict from each place that links lead to, nearest first, to the last step of a shortest way to it.

    The step is the pair of the place before it and the link from there, None for the start itself.
    """
    steps = {start: None}
    queue = [start]
    at = 0
    while at < len(queue):
        place = queue[at]
        at += 1
        for other, link in links[place]:
            if other not in steps:
                steps[other] = (place, link)
                queue.append(other)
    return steps


def _way(steps, place):
    """Return the list of the places on the way to a place, the start first."""
    found = [place]
    while steps[found[-1]] is not None:
        found.append(steps[found[-1]][0])
    return found[::-1]


def _depths(name, links, start):
    """Return a dict from the places that links lead to, to the lengths of their clocks, that of the start taken as 0.

    If two ways to a place tell different lengths, they make a clash of the third case.
    """
    steps = _search(links, start)
    depths = {start: 0}
    for place in steps:
        if steps[place] is not None:
            before, link = steps[place]
            depths[place] = depths[before] + STEPS[link[0]]
    for place in steps:
        for other, link in links[place]:
            if depths[other] != depths[place] + STEPS[link[0]]:
                raise BadClock(name, _there_and_back(steps, other, place))
    return depths


def _there_and_back(steps, one, other):
    """Return the chain from the start to one of two linked places, on to the other, and back to the start."""
    return (*_way(steps, one), *_way(steps, other)[::-1])


def _look_above(name, links, depths, fixed):
    """Raise BadClock if a place has a shorter clock than an input or output: that is a clash of the second case."""
    for x in fixed:
        if x in depths:
            steps = _search(links, x)
            for place in steps:
                if depths[place] < depths[x]:
                    raise BadClock(name, tuple(_way(steps, place)))


def _first_least(depths):
    """Return the first place whose clock is not longer than any other one."""
    least = min(list(depths.values()))
    return [place for place in depths if depths[place] == least][0]


def _spread(name, links, start, clocks):
    """Add the clocks of all places that links lead to from a place with the clock ().

    Where two ways to a place tell different clocks, going there by one and back by the other is a clash of the
    first case: the last pair in which the clocks differ is not the one that the way back takes away.
    """
    steps = _search(links, start)
    for place in steps:
        clocks[place] = ()
        if steps[place] is not None:
            before, link = steps[place]
            clocks[place] = _behind(clocks[before], link)
    for place in steps:
        for other, link in links[place]:
            if clocks[other] != _behind(clocks[place], link):
                raise BadClock(name, _there_and_back(steps, other, place))


def _behind(clock, link):
    """Return the clock behind a step along a link.

    Whether a step takes away the right pair shows when the link is looked at from its other end.
    """
    if link[0] == "below":
        return (*clock, link[1:])
    if link[0] == "above":
        return clock[:-1]
    return clock
