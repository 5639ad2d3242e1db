"""Step machines of programs ([8.6], [8.9])."""

from everytick.clocks import clocks_of
from everytick.joining import dropped, joined
from everytick.kinds import kinds_in
from everytick.lowering import Lowering
from everytick.normal import normalized
from everytick.programs import node_named, values_of
from everytick.schedules import first_schedule
from everytick.uses import needed


def made(program):
    """Return the machine of a program in normal form."""
    numbers = {}
    classes = []
    for name in needed(program):
        node = node_named(program, name)
        numbers[name] = len(classes)
        classes.append(_class_of(program, node, numbers))
    return tuple(classes)


def finished(program):
    """Return the finished machine of a right program without state machines."""
    normal = normalized(program)
    return joined(dropped(made(normal)), _values_in(normal))


def _values_in(program):
    """Return a dict from the nodes of a program to dicts from their variables to the values of these."""
    found = {}
    for node in program[1]:
        kinds = kinds_in(node)
        found[node[0]] = {x: values_of(program[0], kinds[x]) for x in kinds}
    return found


def _class_of(program, node, numbers):
    """Return the class of a node; numbers has those of the classes of the nodes that it calls."""
    form = ClassForm(program, node)
    parts = tuple([numbers[right[1]] for _, right in node[4] if right[0] == "call"])
    inputs = tuple([x for x, _ in node[1]])
    outputs = tuple([x for x, _ in node[2]])
    return (node[0], inputs, outputs, tuple(form.cells), parts, form.whole_body())


class ClassForm:
    """What the class of a node is made of: its cells, and for each equation its statement and its store, if any."""

    def __init__(self, program, node):
        self.lowering = Lowering(program, node)
        self.order = first_schedule(program, node[0])
        self.clocks = dict(clocks_of(program, node[0]))
        self.kinds = kinds_in(node)
        self.sorts = program[0]
        self.cells = []
        self.stores = []
        self.calls = 0
        self.statements = [guarded(self.clocks[names[0]], self.statement(names, right)) for names, right in node[4]]

    def whole_body(self):
        """Return the statements in the order of the first schedule, and behind them the stores."""
        return (*[self.statements[n] for n in self.order], *self.stores)

    def statement(self, names, right):
        """Return the statement of the next equation."""
        word = right[0]
        if word == "call":
            self.calls += 1
            args = tuple([self.lowering.tree_of(arg) for arg in right[2]])
            reset = None if right[3] is None else self.lowering.tree_of(right[3])
            return ("call", names, self.calls - 1, args, reset)
        x = names[0]
        if word == "pre":
            return self.memory(x, values_of(self.sorts, self.kinds[x])[0], right[1])
        if word == "fby":
            return self.memory(x, True, ("const", False))
        return ("set", x, self.lowering.tree_of(right))

    def memory(self, x, first, tree):
        """Make a new cell with a first value, in which a tree is stored, and return the statement that reads it."""
        k = len(self.cells)
        self.cells.append(first)
        self.stores.append(guarded(self.clocks[x], ("store", k, tree)))
        return ("set", x, ("cell", k))


def guarded(clock, statement):
    """Return a statement guarded by a clock."""
    for x, v in reversed(clock):
        statement = ("case", x, ((v, (statement,)),))
    return statement
