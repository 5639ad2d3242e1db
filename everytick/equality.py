"""Comparing machines and programs ([9.6])."""

from everytick.exact import are_exact
from everytick.kinds import have_same_interface
from everytick.machines import machine_of
from everytick.walks import Walk


def compared(one, other):
    """Compare two machines with the same rows: return the least bisimulation as same, or the telling row as apart."""
    walk = Walk((0, 0))
    while not walk.is_over():
        pair = walk.take()
        for r, (mine, yours) in enumerate(zip(one[1][pair[0]], other[1][pair[1]])):
            if not _show_the_same(mine, yours):
                return ("apart", walk.way_to(pair, r))
            if mine is not None:
                walk.come_to((mine[1], yours[1]), pair, r)
    return ("same", tuple(sorted(walk.queue)))


def _show_the_same(one, other):
    """Tell whether two entries of tables are both faults, or give the same outputs."""
    if one is None or other is None:
        return one is None and other is None
    return are_exact(one[0], other[0])


def same_programs(one, other, limit):
    """Compare two programs: their interfaces, then their machines, with input rows in the place of their numbers."""
    if not have_same_interface(one, other):
        return ("interface",)
    machine = machine_of(one, limit)
    word, found = compared(machine, machine_of(other, limit))
    if word == "apart":
        found = tuple([machine[0][r] for r in found])
    return (word, found)
