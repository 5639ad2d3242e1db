"""Step machines and their steps ([8.1] to [8.5])."""

from everytick.evaluation import are_same, value_of
from everytick.machine_forms import are_classes


def is_step_machine(value):
    """Tell whether any value has the form of a step machine."""
    return are_classes(value)


def first_memory(machine):
    """Return the beginning of the main class."""
    return _beginnings(machine)[-1]


def _beginnings(machine):
    """Return the list of the beginnings of all classes."""
    found = []
    for _, _, _, cells, parts, _ in machine:
        found.append((cells, tuple([found[part] for part in parts])))
    return found


def step(machine, memory, row):
    """Return the pair of the outputs and the memory behind a step of the main class."""
    return _step_of(machine, _beginnings(machine), len(machine) - 1, memory, row)


def run_steps(machine, rows):
    """Return the tuple of the outputs of all steps from the beginning."""
    beginnings = _beginnings(machine)
    memory = beginnings[-1]
    found = []
    for row in rows:
        outputs, memory = _step_of(machine, beginnings, len(machine) - 1, memory, row)
        found.append(outputs)
    return tuple(found)


def _step_of(machine, beginnings, at, memory, row):
    """Return what step does, for the class with a number."""
    _, inputs, outputs, _, parts, body = machine[at]
    work = Work(machine, beginnings, parts, memory)
    work.known = dict(zip(inputs, row))
    work.carry_out(body)
    return (tuple([work.known.get(x) for x in outputs]), (tuple(work.held), tuple(work.inner)))


class Work:
    """One step of a class: what its variables, cells and parts hold."""

    def __init__(self, machine, beginnings, parts, memory):
        self.machine = machine
        self.beginnings = beginnings
        self.parts = parts
        self.known = {}
        self.held = list(memory[0])
        self.inner = list(memory[1])

    def carry_out(self, statements):
        """Carry out some statements, in order."""
        for statement in statements:
            word = statement[0]
            if word == "set":
                self.known[statement[1]] = value_of(statement[2], self)
            elif word == "store":
                self.held[statement[1]] = value_of(statement[2], self)
            elif word == "case":
                self.carry_out(self.branch(statement[1], statement[2]))
            else:
                rest = statement[1:]
                self.call(*rest)

    def branch(self, x, branches):
        """Return the statements for the value of a variable, none if there is no branch for it."""
        for value, statements in branches:
            if are_same(value, self.known.get(x)):
                return statements
        return ()

    def call(self, names, k, args, reset):
        """Let a part make a step, from its beginning if the reset says so."""
        part = self.parts[k]
        row = [value_of(arg, self) for arg in args]
        memory = self.inner[k]
        if reset is not None and value_of(reset, self) is True:
            memory = self.beginnings[part]
        outputs, self.inner[k] = _step_of(self.machine, self.beginnings, part, memory, row)
        for x, value in zip(names, outputs):
            self.known[x] = value


def size_of(machine):
    """Return the size of a machine: the number of its cells, with those of its parts and theirs."""
    sizes = []
    for _, _, _, cells, parts, _ in machine:
        sizes.append(len(cells) + sum([sizes[part] for part in parts]))
    return sizes[-1]
