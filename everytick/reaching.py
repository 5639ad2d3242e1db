"""Which inputs the outputs of a node hang on within an instant ([5.7], [5.8])."""

from everytick.causality import at_once, clock_variables
from everytick.clocks import clocks_of
from everytick.programs import node_named
from everytick.schedules import first_schedule
from everytick.uses import needed


def reaches(program, name):
    """Return a tuple with the pair of each output of a node and the ascending tuple of the inputs that it reaches."""
    found = {}
    for callee in needed((program[0], program[1], name)):
        found[callee] = _outputs_reached(program, callee, found)
    return found[name]


def _outputs_reached(program, name, found):
    """Return what reaches tells of a node; found tells it of the nodes that this one calls."""
    node = node_named(program, name)
    clocks = dict(clocks_of(program, name))
    reached = {x: (x,) for x, _ in node[1]}
    for n in first_schedule(program, name):
        names, right = node[4][n]
        for k, x in enumerate(names):
            ways = clock_variables(clocks[x])
            ways.extend(_ways_of(program, right, k, found))
            reached[x] = tuple(sorted({z for y in ways for z in reached[y]}))
    return tuple([(x, reached[x]) for x, _ in node[2]])


def _ways_of(program, right, k, found):
    """Return the list of the variables by which variable k on the left of a right side reaches inputs."""
    if right[0] != "call":
        return list(at_once(right))
    _, callee, args, reset = right
    ways = []
    if reset is not None:
        ways.extend(at_once(reset))
    inputs = found[callee][k][1]
    for (x, _), arg in zip(node_named(program, callee)[1], args):
        if x in inputs:
            ways.extend(at_once(arg))
    return ways
