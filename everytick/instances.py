"""Working out one instant of an instance and of the instances that it calls ([4.1] to [4.6])."""

from everytick.clocks import clocks_of
from everytick.errors import TickError
from everytick.evaluation import settle, value_of
from everytick.holding import Pool
from everytick.lowering import Lowering
from everytick.programs import node_named, parts_of
from everytick.schedules import first_schedule
from everytick.uses import expressions_in, needed


class NilFound(TickError):
    """An instant is a fault: something has nil that has to be known."""


class Plan:
    """How the instances of a node are worked out: its steps, in an order in which all is known that each one needs.

    A step has a clock and a method work(moment, done), where done is a dict of outcome_of. The state of an instance
    holds, beside what its memories hold, what its steps keep: for a call the state of the instance that is called.
    The list kept has for each of these its pool and its beginning.
    """

    def __init__(self, node, watched, steps, cells, kept):
        self.input_names = [x for x, _ in node[1]]
        self.output_names = [x for x, _ in node[2]]
        self.watched = watched
        self.steps = steps
        self.pool = Pool([pool for pool, _ in kept])
        self.beginning = self.pool.held_of(cells, tuple([first for _, first in kept]))


class Moment:
    """An instant of an instance: what is known of its variables, and what becomes of its state."""

    def __init__(self, plan, state):
        self.plan = plan
        self.known = {}
        self.held = list(state.cells)
        self.kept = list(plan.pool.inner_of(state))
        self.later = []

    def give(self, names, values):
        """From now on the values of some variables are known."""
        for x, value in zip(names, values):
            if value is None and x in self.plan.watched:
                raise NilFound("nil tells what is present")
            self.known[x] = value

    def has(self, clock):
        """Tell whether a clock is present."""
        return all([self.known.get(x) == v for x, v in clock])

    def outputs(self):
        """Return the tuple of the values of the outputs."""
        return tuple([self.known[x] for x in self.plan.output_names])

    def state(self):
        """Return the state behind the instant."""
        return self.plan.pool.held_of(tuple(self.held), tuple(self.kept))


class Setting:
    """The step of an equation with an expression."""

    def __init__(self, names, clock, tree):
        self.names = names
        self.clock = clock
        self.tree = tree

    def work(self, moment, done):
        """Give the variable its value."""
        moment.give(self.names, [value_of(self.tree, moment)])


class Calling:
    """The step of an equation with a call; its state is the one that the instance keeps under number k."""

    def __init__(self, names, clock, k, plan, args, reset):
        self.names = names
        self.clock = clock
        self.k = k
        self.plan = plan
        self.given = args
        self.reset = reset

    def work(self, moment, done):
        """Work out the instance that is called, and give its outputs to the variables."""
        inputs = tuple([value_of(arg, moment) for arg in self.given])
        state = moment.kept[self.k]
        if self.reset is not None and is_true(self.reset, moment):
            state = self.plan.beginning
        outputs, moment.kept[self.k] = outcome_of(self.plan, state, inputs, done)
        moment.give(self.names, outputs)


def is_true(tree, moment):
    """Tell whether a condition is True; raise NilFound if it has nil."""
    value = value_of(tree, moment)
    if value is None:
        raise NilFound("a condition has nil")
    return value


def outcome_of(plan, state, inputs, done):
    """Return the pair of the outputs of an instance and the state behind its instant; raise NilFound if it is a fault.

    The dict done belongs to one instant of main, and has the pairs that were found in it: instances of one node that
    hold the same and get the same inputs give the same. (Those of two nodes never hold the same object.)
    """
    key = (state, inputs)
    if key not in done:
        moment = worked_out(plan, state, inputs, done)
        done[key] = (moment.outputs(), moment.state())
    return done[key]


def worked_out(plan, state, inputs, done):
    """Return the moment behind an instant of an instance; raise NilFound if the instant is a fault."""
    moment = Moment(plan, state)
    moment.give(plan.input_names, inputs)
    for step in plan.steps:
        if moment.has(step.clock):
            step.work(moment, done)
    settle(moment)
    return moment


def watched_in(equations):
    """Return a dict from the variables of the when and merge of some equations to True."""
    found = {}
    rest = [expression for _, right in equations for expression in expressions_in(right)]
    while rest:
        tree = rest.pop()
        if tree[0] == "when":
            found[tree[2]] = True
        if tree[0] == "merge":
            found[tree[1]] = True
        rest.extend(parts_of(tree))
    return found


def step_of(equation, clock, lowering, plans, kept):
    """Return the step of an equation; a call puts its pool and beginning behind those that are kept already."""
    names, right = equation
    if right[0] != "call":
        return Setting(names, clock, lowering.tree_of(right))
    _, callee, args, reset = right
    args = [lowering.tree_of(arg) for arg in args]
    if reset is not None:
        reset = lowering.tree_of(reset)
    kept.append((plans[callee].pool, plans[callee].beginning))
    return Calling(names, clock, len(kept) - 1, plans[callee], args, reset)


def plan_of(program, node, plans):
    """Return the plan of a node of a program, without blocks; plans has those of the nodes that it calls."""
    clocks = dict(clocks_of(program, node[0]))
    lowering = Lowering(program, node)
    kept = []
    steps = [step_of(equation, clocks[equation[0][0]], lowering, plans, kept) for equation in node[4]]
    ordered = [steps[n] for n in first_schedule(program, node[0])]
    return Plan(node, watched_in(node[4]), ordered, lowering.first_cells(), kept)


def main_plan(program):
    """Return the plan of main."""
    plans = {}
    for name in needed(program):
        plans[name] = plan_of(program, node_named(program, name), plans)
    return plans[program[2]]


def instant_of(plan, state, row):
    """Return the moment behind an instant of main, or None if it is a fault."""
    try:
        moment = worked_out(plan, state, row, {})
    except NilFound:
        return None
    if None in moment.outputs():
        return None
    return moment


def moments_of(plan, rows):
    """Return the list of the moments behind the instants of a run, up to its end or the first fault."""
    found = []
    state = plan.beginning
    for row in rows:
        moment = instant_of(plan, state, row)
        if moment is None:
            return found
        state = moment.state()
        found.append(moment)
    return found


def run_of(moments, rows):
    """Return what run tells of the moments of a run over some rows."""
    fault = len(moments) if len(moments) < len(rows) else None
    return (tuple([moment.outputs() for moment in moments]), fault)
