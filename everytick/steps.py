"""Step machines and their steps ([8.1] to [8.5])."""

from everytick.evaluation import are_same, value_of
from everytick.exact import key_of
from everytick.holding import Pool
from everytick.machine_forms import are_classes


def is_step_machine(value):
    """Tell whether any value has the form of a step machine."""
    return are_classes(value)


def first_memory(machine):
    """Return the beginning of the main class."""
    return Stepper(machine).beginning.tree


def step(machine, memory, row):
    """Return the pair of the outputs and the memory behind a step of the main class."""
    stepper = Stepper(machine)
    outputs, behind = stepper.stepped(stepper.pool.opened(memory), row)
    return (outputs, behind.tree)


def run_steps(machine, rows):
    """Return the tuple of the outputs of all steps from the beginning."""
    stepper = Stepper(machine)
    memory = stepper.beginning
    found = []
    for row in rows:
        outputs, memory = stepper.stepped(memory, row)
        found.append(outputs)
    return tuple(found)


class Stepper:
    """A step machine, with the pools of the memories of its classes and with their beginnings.

    The attributes pool and beginning are those of the main class.
    """

    def __init__(self, machine):
        self.machine = machine
        self.pools = []
        self.beginnings = []
        for _, _, _, cells, parts, _ in machine:
            pool = Pool([self.pools[part] for part in parts])
            self.pools.append(pool)
            self.beginnings.append(pool.held_of(cells, tuple([self.beginnings[part] for part in parts])))
        self.pool = self.pools[-1]
        self.beginning = self.beginnings[-1]

    def stepped(self, memory, row):
        """Return the pair of the outputs and the memory behind a step of the main class.

        Parts may be called in parts, to any depth: the works that wait for the one that they call are kept in a list.
        Parts of one class that hold the same and are called with the same values give the same, so this is worked out
        once: done has what was found, by the keys of the works. (Those of two classes never hold the same object.)
        """
        done = {}
        works = [Work(self, len(self.machine) - 1, memory, row)]
        while True:
            work = works[-1]
            inner = work.go_on()
            if inner is None:
                done[work.key] = (work.outputs(), work.memory())
                works.pop()
                if not works:
                    return done[work.key]
                works[-1].take_outcome(done[work.key])
            elif inner.key in done:
                work.take_outcome(done[inner.key])
            else:
                works.append(inner)


class Work:
    """One step of a class: what its variables, cells and parts hold, and the statements left, the next one last."""

    def __init__(self, stepper, at, memory, row):
        _, inputs, outputs, _, parts, body = stepper.machine[at]
        self.stepper = stepper
        self.key = (memory, key_of(tuple(row)))
        self.pool = stepper.pools[at]
        self.output_names = outputs
        self.parts = parts
        self.known = dict(zip(inputs, row))
        self.held = list(memory.cells)
        self.inner = list(self.pool.inner_of(memory))
        self.rest = list(reversed(body))
        self.waiting = None

    def go_on(self):
        """Carry out statements up to the next call, and return the work of the part, or None at the end."""
        while self.rest:
            statement = self.rest.pop()
            word = statement[0]
            if word == "set":
                self.known[statement[1]] = value_of(statement[2], self)
            elif word == "store":
                self.held[statement[1]] = value_of(statement[2], self)
            elif word == "case":
                inside = self.branch(statement[1], statement[2])
                self.rest.extend(list(reversed(inside)))
            else:
                rest = statement[1:]
                return self.called(*rest)
        return None

    def branch(self, x, branches):
        """Return the statements for the value of a variable, none if there is no branch for it."""
        for value, statements in branches:
            if are_same(value, self.known.get(x)):
                return statements
        return ()

    def called(self, names, k, args, reset):
        """Return the work of a part, from its beginning if the reset says so; then its outputs are waited for."""
        part = self.parts[k]
        row = [value_of(arg, self) for arg in args]
        memory = self.inner[k]
        if reset is not None and value_of(reset, self) is True:
            memory = self.stepper.beginnings[part]
        self.waiting = (names, k)
        return Work(self.stepper, part, memory, row)

    def take_outcome(self, outcome):
        """Take the outputs and the memory behind the step that was waited for."""
        names, k = self.waiting
        outputs, self.inner[k] = outcome
        for x, value in zip(names, outputs):
            self.known[x] = value

    def outputs(self):
        """Return the tuple of the values of the outputs."""
        return tuple([self.known.get(x) for x in self.output_names])

    def memory(self):
        """Return the memory behind the step."""
        return self.pool.held_of(tuple(self.held), tuple(self.inner))


def size_of(machine):
    """Return the size of a machine: the number of its cells, with those of its parts and theirs."""
    sizes = []
    for _, _, _, cells, parts, _ in machine:
        sizes.append(len(cells) + sum([sizes[part] for part in parts]))
    return sizes[-1]
