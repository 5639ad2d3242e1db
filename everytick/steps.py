"""Step machines and their steps ([8.1] to [8.5])."""

from everytick.evaluation import are_same, value_of
from everytick.machine_forms import are_classes


def is_step_machine(value):
    """Tell whether any value has the form of a step machine."""
    return are_classes(value)


def first_memory(machine):
    """Return the beginning of the main class."""
    return _beginnings(machine)[-1]


def _beginnings(machine):
    """Return the list of the beginnings of all classes."""
    found = []
    for _, _, _, cells, parts, _ in machine:
        found.append((cells, tuple([found[part] for part in parts])))
    return found


def step(machine, memory, row):
    """Return the pair of the outputs and the memory behind a step of the main class."""
    return _step_of(machine, _beginnings(machine), memory, row)


def run_steps(machine, rows):
    """Return the tuple of the outputs of all steps from the beginning."""
    beginnings = _beginnings(machine)
    memory = beginnings[-1]
    found = []
    for row in rows:
        outputs, memory = _step_of(machine, beginnings, memory, row)
        found.append(outputs)
    return tuple(found)


def _step_of(machine, beginnings, memory, row):
    """Return what step does; beginnings has those of all classes.

    Parts may be called in parts, to any depth: the works that wait for the one that they call are kept in a list.
    """
    works = [Work(machine, beginnings, len(machine) - 1, memory, row)]
    while True:
        inner = works[-1].go_on()
        if inner is not None:
            works.append(inner)
        elif len(works) == 1:
            return (works[0].outputs(), works[0].memory())
        else:
            done = works.pop()
            works[-1].take_from(done)


class Work:
    """One step of a class: what its variables, cells and parts hold, and the statements left, the next one last."""

    def __init__(self, machine, beginnings, at, memory, row):
        _, inputs, outputs, _, parts, body = machine[at]
        self.machine = machine
        self.beginnings = beginnings
        self.output_names = outputs
        self.parts = parts
        self.known = dict(zip(inputs, row))
        self.held = list(memory[0])
        self.inner = list(memory[1])
        self.rest = list(reversed(body))
        self.waiting = None

    def go_on(self):
        """Carry out statements up to the next call, and return the work of the part, or None at the end."""
        while self.rest:
            statement = self.rest.pop()
            word = statement[0]
            if word == "set":
                self.known[statement[1]] = value_of(statement[2], self)
            elif word == "store":
                self.held[statement[1]] = value_of(statement[2], self)
            elif word == "case":
                inside = self.branch(statement[1], statement[2])
                self.rest.extend(list(reversed(inside)))
            else:
                rest = statement[1:]
                return self.called(*rest)
        return None

    def branch(self, x, branches):
        """Return the statements for the value of a variable, none if there is no branch for it."""
        for value, statements in branches:
            if are_same(value, self.known.get(x)):
                return statements
        return ()

    def called(self, names, k, args, reset):
        """Return the work of a part, from its beginning if the reset says so; then its outputs are waited for."""
        part = self.parts[k]
        row = [value_of(arg, self) for arg in args]
        memory = self.inner[k]
        if reset is not None and value_of(reset, self) is True:
            memory = self.beginnings[part]
        self.waiting = (names, k)
        return Work(self.machine, self.beginnings, part, memory, row)

    def take_from(self, done):
        """Take the outputs and the memory of the work that was waited for."""
        names, k = self.waiting
        self.inner[k] = done.memory()
        for x, value in zip(names, done.outputs()):
            self.known[x] = value

    def outputs(self):
        """Return the tuple of the values of the outputs."""
        return tuple([self.known.get(x) for x in self.output_names])

    def memory(self):
        """Return the memory behind the step."""
        return (tuple(self.held), tuple(self.inner))


def size_of(machine):
    """Return the size of a machine: the number of its cells, with those of its parts and theirs."""
    sizes = []
    for _, _, _, cells, parts, _ in machine:
        sizes.append(len(cells) + sum([sizes[part] for part in parts]))
    return sizes[-1]
