"""Claims that are inductive ([10.5], [10.6])."""

from everytick.claims import GOOD, observed
from everytick.errors import TooMany
from everytick.machines import input_rows
from everytick.state_forms import StateForms
from everytick.systems import Watched

MAX_ALL = 4096


def all_states(program):
    """Return the list of all states of a program, reached or not; raise TooMany if there are more than MAX_ALL."""
    forms = StateForms(program)
    if forms.number_of_states(MAX_ALL) > MAX_ALL:
        raise TooMany("there are too many states")
    return forms.all_states()


def is_inductive(program, claim, k):
    """Tell whether a claim is inductive by k: it is so by k and each greater number if it is by a least one."""
    return least_induction(program, claim, k) is not None


def least_induction(program, claim, bound):
    """Return the least k up to the bound by which a claim is inductive, or None."""
    graph = Graph(observed(program, claim))
    bad = graph.worst
    # Whoever can go on badly for as many instants as there are states goes in a ring, and can do so for ever.
    for k in range(min(bound, len(graph.before)) + 1):
        if not bad:
            return k
        if graph.start in bad:
            return None
        bad = graph.leading_to(bad)
    return None


class Graph:
    """All states of an observed program, by numbers: which ones lead to which by rows that give True.

    The attribute worst has the states from which some row leads to False or a fault at once; like the other sets of
    states here it is a dict with these states as its keys.
    """

    def __init__(self, program):
        rows = input_rows(program)
        system = Watched(program, GOOD)
        states = [system.entered(state) for state in all_states(program)]
        numbers = {state: s for s, state in enumerate(states)}
        self.start = numbers[system.start]
        self.worst = {}
        self.before = [{} for _ in states]
        for s, state in enumerate(states):
            for row in rows:
                good, after = system.onward(state, row)
                if good:
                    self.before[numbers[after]][s] = True
                else:
                    self.worst[s] = True

    def leading_to(self, bad):
        """Return the states from which some row leads, by True, to one of the bad ones."""
        return {s: True for other in bad for s in self.before[other]}
