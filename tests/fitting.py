"""Random programs that fit, from fixed seeds: some are clocked, and some are not."""

import random

from tests.samples import SORTS

KINDS = ("bool", ("mod", 2), ("mod", 3), ("sort", "Color"), ("sort", "Red"))


def values(kind):
    if kind == "bool":
        return (False, True)
    if kind[0] == "mod":
        return tuple(range(kind[1]))
    return dict(SORTS)[kind[1]]


class Fitting:
    """Makes programs of one or more nodes; with `loose` above 0, variables on other clocks slip in."""

    def __init__(self, seed, loose=0.0, memories=True):
        self.random = random.Random(seed)
        self.loose = loose
        self.memories = memories

    def program(self, many=1):
        nodes = ()
        for k in range(many):
            nodes += (self.node(f"f{k}", nodes),)
        return (SORTS, nodes, nodes[-1][0])

    def node(self, name, before):
        self.clocks = {}
        self.kinds = {}
        inputs = self.declare("x", self.random.randint(0, 3))
        outputs = self.declare("y", self.random.randint(1, 2))
        inner = self.declare("m", self.random.randint(0, 5))
        for x, _ in inner:
            if self.random.random() < 0.7:
                self.clocks[x] = self.clock_for(x)
        body = []
        left = [x for x, _ in outputs + inner]
        self.random.shuffle(left)
        while left:
            body.append(self.call(left, before) or self.equation(left))
        self.random.shuffle(body)
        return (name, inputs, outputs, inner, tuple(body))

    def declare(self, letter, many):
        pairs = tuple((f"{letter}{k}", self.random.choice(KINDS)) for k in range(many))
        for x, kind in pairs:
            self.clocks[x] = ()
            self.kinds[x] = kind
        return pairs

    def clock_for(self, name):
        """A clock of one or two pairs of variables that come before a local in the alphabet."""
        clock = ()
        for _ in range(self.random.randint(1, 2)):
            names = [x for x in sorted(self.clocks) if self.clocks[x] == clock and (x[0] != "m" or x < name)]
            if names:
                x = self.random.choice(names)
                clock += ((x, self.random.choice(values(self.kinds[x]))),)
        return clock

    def equation(self, left):
        x = left.pop()
        return ((x,), self.tree(self.kinds[x], self.clocks[x], self.random.randint(1, 4), self.memories))

    def call(self, left, before):
        if not before or self.random.random() < 0.5:
            return None
        _, inputs, outputs, _, _ = self.random.choice(before)
        name = [node[0] for node in before if node[1:3] == (inputs, outputs)][0]
        clock = self.clocks[left[-1]]
        names = []
        for _, kind in outputs:
            fine = [x for x in left if self.kinds[x] == kind and self.clocks[x] == clock and x not in names]
            if not fine:
                return None
            names.append(fine[0])
        for x in names:
            left.remove(x)
        args = tuple(self.tree(kind, clock, 2, self.memories) for _, kind in inputs)
        reset = self.tree("bool", clock, 2, self.memories) if self.random.random() < 0.5 else None
        return (tuple(names), ("call", name, args, reset))

    def leaf(self, kind, clock):
        names = [x for x in self.kinds if self.kinds[x] == kind]
        if self.random.random() >= self.loose:
            names = [x for x in names if self.clocks[x] == clock]
        if names and self.random.random() < 0.8:
            return ("var", self.random.choice(names))
        return ("const", self.random.choice(values(kind)), kind)

    def tree(self, kind, clock, depth, memories):
        if depth <= 1:
            return self.leaf(kind, clock)
        words = ["leaf", "if", "when", "when", "merge"] + ["pre", "arrow", "fby"] * memories
        words += ["not", "and", "eq"] if kind == "bool" else ["add", "mul"] if kind[0] == "mod" else []
        word = self.random.choice(words)
        if word == "leaf" or word == "when" and not clock:
            return self.leaf(kind, clock)
        if word == "when":
            return (word, self.tree(kind, clock[:-1], depth - 1, False)) + clock[-1]
        if word == "merge":
            return self.merge(kind, clock, depth, memories)
        kinds = {"if": ("bool", kind, kind), "pre": (kind,), "not": ("bool",)}.get(word, (kind, kind))
        if word == "eq":
            kinds = (self.random.choice(KINDS),) * 2
        return (word,) + tuple(self.tree(part, clock, depth - 1, memories) for part in kinds)

    def merge(self, kind, clock, depth, memories):
        names = [x for x in self.kinds if self.clocks[x] == clock]
        if not names or self.random.random() < self.loose:
            names = sorted(self.kinds)
        x = self.random.choice(names)
        branches = [(v, self.tree(kind, clock + ((x, v),), depth - 1, memories)) for v in values(self.kinds[x])]
        return ("merge", x, tuple(branches))
