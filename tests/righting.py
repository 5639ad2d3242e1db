"""Random programs that are right, from fixed seeds, with calls, clocks, memories and, where asked for, blocks.

The variables of a node are made in groups, one equation, call or block each. What is needed at once comes from the
groups before, so that there are no rings; parts of memories may have any variable.
"""

import random

from tests.fitting import values
from tests.samples import SORTS

KINDS = ("bool", "bool", ("mod", 2), ("mod", 3), ("mod", 5), ("sort", "Color"), ("sort", "Red"))


class Righting:
    """Makes programs; `nil` tells how often a pre stands without an arrow or fby that guards it."""

    def __init__(self, seed, nil=0.1, blocks=0.0, groups=4):
        self.random = random.Random(seed)
        self.nil = nil
        self.blocks = blocks
        self.groups = groups

    def program(self, many=1):
        nodes = ()
        for k in range(many):
            nodes += (self.node(f"f{k}", nodes),)
        return (SORTS, nodes, nodes[-1][0])

    def rows(self, program, many):
        """Random input rows of main."""
        kinds = [kind for _, kind in [node for node in program[1] if node[0] == program[2]][0][1]]
        return tuple(tuple(self.random.choice(values(kind)) for kind in kinds) for _ in range(many))

    def node(self, name, before):
        self.kinds, self.clocks, self.ranks = {}, {}, {}
        self.inputs = tuple(self.declare(f"x{k}", self.random.choice(KINDS), (), 0)
                            for k in range(self.random.randint(0, 3)))
        self.outputs, self.inner = [], []
        groups = [self.group(k + 1, before) for k in range(self.random.randint(1, self.groups))]
        while not self.outputs:
            groups.append(self.single(len(groups) + 1, True))
        body = [self.entry(*group) for group in groups]
        self.random.shuffle(body)
        return (name, self.inputs, tuple(self.outputs), tuple(self.inner), tuple(body))

    def declare(self, name, kind, clock, rank):
        self.kinds[name], self.clocks[name], self.ranks[name] = kind, clock, rank
        return (name, kind)

    def local(self, kind, clock, rank, output=False):
        rows = self.outputs if output else self.inner
        rows.append(self.declare(("y" if output else "m") + str(len(rows)), kind, clock, rank))
        return rows[-1][0]

    def clock(self):
        """A clock of at most two pairs of variables that are there already."""
        clock = ()
        while len(clock) < 2 and self.random.random() < 0.45:
            names = [x for x in self.clocks if self.clocks[x] == clock]
            if not names:
                break
            x = self.random.choice(names)
            clock += ((x, self.random.choice(values(self.kinds[x]))),)
        return clock

    def group(self, rank, before):
        if self.random.random() < self.blocks:
            return self.block(rank, before)
        if before and self.random.random() < 0.4:
            callee = self.random.choice(before)
            clock = self.clock()
            names = tuple(self.local(kind, clock, rank, not clock and self.random.random() < 0.3)
                          for _, kind in callee[2])
            return ("call", rank, names, clock, callee)
        return self.single(rank, self.random.random() < 0.4)

    def single(self, rank, output):
        clock = () if output else self.clock()
        return ("set", rank, (self.local(self.random.choice(KINDS), clock, rank, output),), clock)

    def block(self, rank, before):
        if before and self.random.random() < 0.4:
            callee = self.random.choice(before)
            kinds = [kind for _, kind in callee[2]]
        else:
            callee = None
            kinds = [self.random.choice(KINDS) for _ in range(self.random.randint(1, 2))]
        names = tuple(self.local(kind, (), rank, self.random.random() < 0.5) for kind in kinds)
        return ("states", rank, names, callee)

    def entry(self, word, rank, names, *more):
        if word == "set":
            return (names, self.tree(self.kinds[names[0]], more[0], 4, lambda x: self.ranks[x] < rank))
        if word == "call":
            return (names, self.call(more[1], more[0], lambda x: self.ranks[x] < rank))
        labels = self.random.sample(("Up", "Down", "Left", "A"), self.random.randint(2, 3))
        return ("states", tuple(self.state(label, labels, rank, names, more[0]) for label in labels))

    def call(self, callee, clock, at_once, later=None, sampled=True):
        args = tuple(self.tree(kind, clock, 3, at_once, later, sampled) for _, kind in callee[1])
        reset = self.tree("bool", clock, 3, at_once, later, sampled) if self.random.random() < 0.6 else None
        return ("call", callee[0], args, reset)

    def state(self, label, labels, rank, names, callee):
        outside = [x for x in self.kinds if self.ranks[x] < rank and self.clocks[x] == ()]
        equations = []
        if callee is not None and self.random.random() < 0.6:
            right = self.call(callee, (), lambda x: x in outside, lambda x: x in outside or x in names, False)
            equations.append((names, right))
        else:
            known = list(outside)
            for x in self.random.sample(names, len(names)):
                tree = self.tree(self.kinds[x], (), 3, lambda y: y in known, lambda y: y in outside or y in names, False)
                equations.append(((x,), tree))
                known.append(x)
            self.random.shuffle(equations)
        until = [x for x in self.kinds if self.clocks[x] == ()]
        return (label, tuple(equations), self.transitions(labels, outside), self.transitions(labels, until))

    def transitions(self, labels, names):
        return tuple(
            (self.tree("bool", (), 2, lambda x: x in names, sampled=False, memories=False),
             self.random.choice(("then", "continue")), self.random.choice(labels))
            for _ in range(self.random.randint(0, 2)))

    def leaf(self, kind, clock, may):
        names = [x for x in self.kinds if self.kinds[x] == kind and self.clocks[x] == clock and may(x)]
        if names and self.random.random() < 0.85:
            return ("var", self.random.choice(names))
        return ("const", self.random.choice(values(kind)), kind)

    def tree(self, kind, clock, depth, at_once, later=None, sampled=True, memories=True):
        """A tree whose variables `at_once` lets by, and in memories `later`; sampled with when and merge."""
        later = (lambda x: True) if later is None else later
        if depth <= 1:
            return self.leaf(kind, clock, at_once)
        words = ["leaf", "if"] + ["when", "merge"] * sampled + ["pre", "fby", "fby", "arrow"] * memories
        words += ["not", "and", "or", "xor", "eq", "ne", "less", "leq"] if kind == "bool" else []
        words += ["add", "sub", "mul"] if kind[0] == "mod" else []
        word = self.random.choice(words)

        def part(kind, may, clock=clock, memories=memories):
            return self.tree(kind, clock, depth - 1, may, later, sampled, memories)

        if word == "leaf" or word == "when" and not clock:
            return self.leaf(kind, clock, at_once)
        if word == "when":
            return (word, part(kind, at_once, clock[:-1], False)) + clock[-1]
        if word == "merge":
            names = [x for x in self.kinds if self.clocks[x] == clock and at_once(x)]
            if not names:
                return self.leaf(kind, clock, at_once)
            x = self.random.choice(names)
            return (word, x, tuple((v, part(kind, at_once, clock + ((x, v),))) for v in values(self.kinds[x])))
        if word == "pre":
            delayed = (word, part(kind, later))
            return delayed if self.random.random() < self.nil else ("arrow", part(kind, at_once), delayed)
        if word == "fby":
            return (word, part(kind, at_once), part(kind, later))
        if word == "arrow":
            return (word, part(kind, at_once), part(kind, at_once))
        kinds = {"if": ("bool", kind, kind), "not": ("bool",)}.get(word, (kind, kind))
        if word in ("eq", "ne"):
            kinds = (self.random.choice(KINDS),) * 2
        if word in ("less", "leq"):
            kinds = (("mod", self.random.choice((2, 3, 5))),) * 2
        return (word,) + tuple(part(kind, at_once) for kind in kinds)
