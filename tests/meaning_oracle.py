"""What part 4 says, written down a second time: values are asked for when they are needed, place by place."""

from tests.clock_oracle import least_clocking, parts, trees_of


class Fault(Exception):
    pass


class Instance:
    """An instant of an instance of a node, with a state before it and values of its inputs."""

    def __init__(self, program, name, state, inputs):
        self.program = program
        self.node = [node for node in program[1] if node[0] == name][0]
        self.trees = {place: tree for place, tree in trees_of(self.node).items() if tree is not None}
        self.clocks = least_clocking(self.node)
        memories = [place for place, tree in self.trees.items() if tree[0] in ("pre", "arrow", "fby")]
        self.cells = dict(zip(memories, state[0]))
        calls = [n for n, (_, right) in enumerate(self.node[4]) if right[0] == "call"]
        self.calls = dict(zip(calls, state[1]))
        self.homes = {x: (n, k) for n, (names, _) in enumerate(self.node[4]) for k, x in enumerate(names)}
        self.inputs = {x: value for (x, _), value in zip(self.node[1], inputs)}
        self.known = {}
        self.inner = {}
        self.kinds = {x: kind for row in self.node[1:4] for x, kind in row}

    def present(self, place):
        return all(self.told("variable", x) == v for x, v in self.clocks[place])

    def told(self, what, key):
        """The value of a variable or a place, worked out once."""
        if (what, key) not in self.known:
            self.known[what, key] = getattr(self, what)(key)
        return self.known[what, key]

    def variable(self, x):
        assert self.present(x)
        if x in self.inputs:
            return self.inputs[x]
        n, k = self.homes[x]
        if n in self.calls:
            return self.called(n).outputs()[k]
        return self.told("value", (n, ()))

    def called(self, n):
        if n not in self.inner:
            _, name, args, reset = self.node[4][n][1]
            state = self.calls[n]
            if reset is not None:
                value = self.told("value", (n, (len(args),)))
                if value is None:
                    raise Fault()
                if value:
                    state = beginning_of(self.program, name)
            values = [self.told("value", (n, (j,))) for j in range(len(args))]
            self.inner[n] = Instance(self.program, name, state, values)
        return self.inner[n]

    def value(self, place):
        assert self.present(place), place
        n, way = place
        tree = self.trees[place]
        word = tree[0]

        def part(j):
            return self.told("value", (n, way + (j,)))

        if word == "const":
            return tree[1]
        if word == "var":
            return self.told("variable", tree[1])
        if word == "when":
            return part(0)
        if word == "merge":
            labels = [v for v, _ in tree[2]]
            value = self.told("variable", tree[1])
            if value is None:
                raise Fault()
            return part(labels.index(value))
        if word in ("pre", "arrow", "fby"):
            cell = self.cells[place]
            if word == "arrow":
                return part(1 if cell else 0)
            if cell:
                return cell[0]
            return part(0) if word == "fby" else None
        found = [part(j) for j in range(len(parts(tree)))]
        if word == "if":
            return None if found[0] is None else found[1 if found[0] else 2]
        if None in found:
            return None
        return self.operated(word, place, *found)

    def operated(self, word, place, a, b=None):
        if word in ("add", "sub", "mul"):
            modulus = self.modulus(self.trees[place])
            return {"add": a + b, "sub": a - b, "mul": a * b}[word] % modulus
        return {"not": lambda: not a, "and": lambda: a and b, "or": lambda: a or b, "xor": lambda: a is not b,
                "eq": lambda: a == b, "ne": lambda: a != b, "less": lambda: a < b, "leq": lambda: a <= b}[word]()

    def modulus(self, tree):
        while tree[0] not in ("const", "var"):
            tree = parts(tree)[1 if tree[0] == "if" else 0]
        return (tree[2] if tree[0] == "const" else self.kinds[tree[1]])[1]

    def outputs(self):
        return tuple(self.told("variable", x) for x, _ in self.node[2])

    def behind(self):
        """The state behind the instant; all that is present is worked out."""
        samplers = {tree[1 if tree[0] == "merge" else 2] for tree in self.trees.values() if tree[0] in ("when", "merge")}
        for x in self.clocks:
            if isinstance(x, str) and self.present(x):
                if self.told("variable", x) is None and x in samplers:
                    raise Fault()
        cells = tuple(self.cell_behind(place) for place in self.cells)
        calls = tuple(self.called(n).behind() if self.present((n, ())) else self.calls[n] for n in self.calls)
        return (cells, calls)

    def cell_behind(self, place):
        n, way = place
        if not self.present(place):
            return self.cells[place]
        word = self.trees[place][0]
        if word == "arrow":
            return (None,)
        return (self.told("value", (n, way + (1 if word == "fby" else 0,))),)


def beginning_of(program, name):
    node = [node for node in program[1] if node[0] == name][0]
    words = [tree[0] for tree in trees_of(node).values() if tree is not None]
    cells = tuple(() for word in words if word in ("pre", "arrow", "fby"))
    return (cells, tuple(beginning_of(program, right[1]) for _, right in node[4] if right[0] == "call"))


def instant(program, state, row):
    main = Instance(program, program[2], state, row)
    try:
        behind = main.behind()
        if None in main.outputs():
            return None
    except Fault:
        return None
    return (main.outputs(), behind)


def run(program, rows):
    state = beginning_of(program, program[2])
    found = []
    for k, row in enumerate(rows):
        told = instant(program, state, row)
        if told is None:
            return (tuple(found), k)
        found.append(told[0])
        state = told[1]
    return (tuple(found), None)


def trace(program, rows):
    state = beginning_of(program, program[2])
    found = []
    for row in rows:
        told = instant(program, state, row)
        if told is None:
            return tuple(found)
        main = Instance(program, program[2], state, row)
        names = [x for part in main.node[1:4] for x, _ in part]
        found.append(tuple(("value", main.told("variable", x)) if main.present(x) else ("absent",) for x in names))
        state = told[1]
    return tuple(found)
