"""The direct meaning of state machines ([6.3], [6.4])."""

from everytick.clocks import clocks_of
from everytick.definitions import defined_in
from everytick.holding import Pool
from everytick.instances import (
    Plan, is_true, moments_of, outcome_of, plan_of, run_of, step_of, watched_in,
)
from everytick.lowering import Lowering
from everytick.programs import node_named, variables_in
from everytick.schedules import first_schedule
from everytick.translation import state_node
from everytick.uses import blocks_of, needed


class Switch:
    """The step of a block up to its equations.

    The instance keeps under number k, as cells, the number of the next state, the mark whether it is to be put back,
    and the number of the state that was active last; and, as parts, the states of the plans of all states.
    """

    def __init__(self, names, clock, k, pool, plans, rows):
        self.names = names
        self.clock = clock
        self.k = k
        self.pool = pool
        self.plans = plans
        self.rows = rows

    def work(self, moment, done):
        """Find the active state, and work out its equations."""
        before = moment.kept[self.k]
        at, mark, _ = before.cells
        found = first_true(self.rows[at], moment)
        if found is not None:
            mark, at = found
        plan = self.plans[at]
        state = plan.beginning if mark else before.parts[at]
        values = tuple([moment.known[x] for x in plan.input_names])
        outputs, behind = outcome_of(plan, state, values, done)
        moment.give(self.names, outputs)
        parts = (*before.parts[:at], behind, *before.parts[at + 1:])
        moment.kept[self.k] = self.pool.held_of((at, False, at), parts)


class Leave:
    """The last step of a block: whether a transition is taken behind its equations."""

    def __init__(self, block, clock, k, pool, rows):
        self.states = [state[0] for state in block[1]]
        self.clock = clock
        self.k = k
        self.pool = pool
        self.rows = rows

    def work(self, moment, done):
        """Find the next state."""
        before = moment.kept[self.k]
        active = before.cells[2]
        found = first_true(self.rows[active], moment)
        if found is not None:
            mark, at = found
            moment.kept[self.k] = self.pool.held_of((at, mark, active), before.parts)

    def active(self, moment):
        """Return the name of the state that is active at an instant."""
        return self.states[moment.kept[self.k].cells[2]]


def first_true(rows, moment):
    """Return what stands behind the first condition of some rows that is True, or None."""
    for condition, found in rows:
        if is_true(condition, moment):
            return found
    return None


def _transitions(lowering, block, rows):
    """Return the list of the pairs of a condition and of whether its state is put back and the number of this."""
    names = [state[0] for state in block[1]]
    return [(lowering.tree_of(row[0]), (row[1] == "then", names.index(row[2]))) for row in rows]


def _stand_in(node):
    """Return a node with a call in the place of each block: it needs at once what the block needs.

    The conditions of until are worked out last of all. They stand behind pre: so they are not needed at once, but
    on the same clock.
    """
    body = []
    for entry in node[4]:
        if entry[0] == "states":
            ahead = [("var", x) for x in _needed_ahead(node, entry)]
            last = [("pre", row[0]) for state in entry[1] for row in state[3]]
            body.append((tuple(_variables_of(node, entry)), ("call", "", (*ahead, *last), None)))
        else:
            body.append(entry)
    return (*node[:4], tuple(body))


def _variables_of(node, block):
    """Return the list of the variables of a block, in the order of its node."""
    return [x for x, _ in (*node[2], *node[3]) if x in defined_in(block[1][0])]


def _needed_ahead(node, block):
    """Return the ascending list of the variables that have to be known before a block is worked out."""
    found = []
    for state in block[1]:
        found.extend([x for x, _ in state_node(node, block, state, "")[1]])
        for row in state[2]:
            found.extend(variables_in(row[0]))
    return sorted(set(found))


def _main_plan(program):
    plans = {}
    for name in needed(program):
        node = node_named(program, name)
        if blocks_of(node):
            plans[name] = _plan_with_blocks(program, node, plans)
        else:
            plans[name] = plan_of(program, node, plans)
    return plans[program[2]]


def _plan_with_blocks(program, node, plans):
    """Return the plan of a node with blocks; plans has those of the nodes that it calls."""
    flat = _stand_in(node)
    whole = (program[0], (*[other for other in program[1] if other != node], flat), program[2])
    clocks = dict(clocks_of(whole, node[0]))
    lowering = Lowering(program, node)
    kept = []
    steps = []
    last = []
    for entry, (names, _) in zip(node[4], flat[4]):
        clock = clocks[names[0]]
        if entry[0] == "states":
            steps.append(_switch(program, node, entry, clock, lowering, plans, kept))
            rows = [_transitions(lowering, entry, state[3]) for state in entry[1]]
            last.append(Leave(entry, clock, len(kept) - 1, kept[-1][0], rows))
        else:
            steps.append(step_of(entry, clock, lowering, plans, kept))
    ordered = [steps[n] for n in first_schedule(whole, node[0])]
    equations = [entry for entry in node[4] if entry[0] != "states"]
    return Plan(node, watched_in(equations), [*ordered, *last], lowering.first_cells(), kept)


def _switch(program, node, block, clock, lowering, plans, kept):
    """Return the step of a block; it puts its pool and beginning behind those that are kept already."""
    nodes = [state_node(node, block, state, "") for state in block[1]]
    inner = [plan_of((program[0], (inside,), ""), inside, plans) for inside in nodes]
    pool = Pool([plan.pool for plan in inner])
    kept.append((pool, pool.held_of((0, False, 0), tuple([plan.beginning for plan in inner]))))
    rows = [_transitions(lowering, block, state[2]) for state in block[1]]
    return Switch(_variables_of(node, block), clock, len(kept) - 1, pool, inner, rows)


def run_direct(program, rows):
    """Return what run does, by the direct meaning."""
    return run_of(moments_of(_main_plan(program), rows), rows)


def active_states(program, rows):
    """Return a tuple with, for each instant before a fault, the names of the active states of the blocks of main."""
    plan = _main_plan(program)
    last = [step for step in plan.steps if isinstance(step, Leave)]
    moments = moments_of(plan, rows)
    return tuple([tuple([step.active(moment) for step in last if moment.has(step.clock)]) for moment in moments])
