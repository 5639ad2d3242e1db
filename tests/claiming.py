"""Random claims about programs, from fixed seeds: some hold, and some do not."""

from tests.righting import Righting


def main_of(program):
    return [node for node in program[1] if node[0] == program[2]][0]


class Claiming(Righting):
    """Makes claims about given programs; with `calm` above 0, claims that do not ask for much."""

    def claim(self, program, calm=0.7):
        self.kinds, self.clocks, self.ranks = {}, {}, {}
        main = main_of(program)
        kinds = [kind for _, kind in main[1] + main[2]]
        self.inputs = tuple(self.declare(f"x{k}", kind, (), 0) for k, kind in enumerate(kinds))
        self.outputs, self.inner = [], []
        groups = [self.group(k + 1, program[1]) for k in range(self.random.randint(0, 3))]
        body = [self.entry(*group) for group in groups]
        tree = self.tree("bool", (), 3, lambda x: True)
        while self.random.random() < calm:
            tree = ("or", tree, self.tree("bool", (), 3, lambda x: True))
        body.insert(self.random.randint(0, len(body)), (("ok",), tree))
        return ("claim", self.inputs, (("ok", "bool"),), tuple(self.inner + self.outputs), tuple(body))


def same_again(program):
    """The claim that main gives what another instance of it gives: it holds if no run has a fault."""
    main = main_of(program)
    inputs = tuple((f"x{k}", kind) for k, (_, kind) in enumerate(main[1]))
    given = tuple((f"y{k}", kind) for k, (_, kind) in enumerate(main[2]))
    again = tuple((f"z{k}", kind) for k, (_, kind) in enumerate(main[2]))
    call = ("call", main[0], tuple(("var", x) for x, _ in inputs), None)
    tree = ("const", True, "bool")
    for (y, _), (z, _) in zip(given, again):
        tree = ("and", tree, ("eq", ("var", y), ("var", z)))
    return ("again", inputs + given, (("ok", "bool"),), again, ((tuple(z for z, _ in again), call), (("ok",), tree)))
