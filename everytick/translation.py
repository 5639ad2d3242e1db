"""The equations that a block is exchanged for ([6.5])."""

from everytick.definitions import defined_in
from everytick.uses import variables_of_equation

TRUE = ("const", True, "bool")
FALSE = ("const", False, "bool")


def state_node(node, block, state, name):
    """Return the node, of a given name, that gives the variables of a block of a node as one of its states does."""
    defined = defined_in(block[1][0])
    inside = [x for equation in state[1] for x in variables_of_equation(equation)]
    declared = (*node[1], *node[2], *node[3])
    inputs = [pair for pair in declared if pair[0] in inside and pair[0] not in defined]
    outputs = [pair for pair in declared if pair[0] in defined]
    return (name, tuple(inputs), tuple(outputs), (), state[1])


class Translation:
    """What one block of a node is exchanged for; names makes the new names."""

    def __init__(self, names, node, block):
        self.states = block[1]
        self.kind = ("sort", names.fresh("Sort"))
        self.labels = [names.fresh("In") for _ in self.states]
        self.nodes = [state_node(node, block, state, names.fresh("st")) for state in self.states]
        self.variables = self.nodes[0][2]
        self.given = [[names.fresh("out") for _ in self.variables] for _ in self.states]
        self.into = names.fresh("into")
        self.had = names.fresh("had")
        self.now = names.fresh("now")
        self.put = names.fresh("put")
        self.following = names.fresh("next")
        self.mark = names.fresh("mark")
        self.seen = names.fresh("seen")

    def new_sort(self):
        """Return the new sort, with a constructor for each state."""
        return (self.kind[1], tuple(self.labels))

    def declared(self):
        """Return the list of the new locals."""
        found = [(self.into, self.kind), (self.had, "bool"), (self.now, self.kind), (self.put, "bool")]
        for row in self.given:
            found.extend([(x, kind) for x, (_, kind) in zip(row, self.variables)])
        return [*found, (self.following, self.kind), (self.mark, "bool"), (self.seen, "bool")]

    def equations(self):
        """Return the list of the new equations."""
        unless = [state[2] for state in self.states]
        until = [state[3] for state in self.states]
        return [
            ((self.into,), ("fby", ("const", self.labels[0], self.kind), ("var", self.following))),
            ((self.had,), ("fby", FALSE, ("var", self.mark))),
            ((self.now,), self.chosen(self.into, self.targets(unless), ("var", self.into))),
            ((self.put,), self.chosen(self.into, marks(unless), ("var", self.had))),
            *[self.call(k) for k in range(len(self.states))],
            *[self.merged(j) for j in range(len(self.variables))],
            ((self.following,), self.chosen(self.now, self.targets(until), ("var", self.now))),
            ((self.mark,), self.chosen(self.now, marks(until), FALSE)),
            ((self.seen,), ("merge", self.following, tuple([(label, TRUE) for label in self.labels]))),
        ]

    def targets(self, rows):
        """Return, for each state, the pairs of the conditions of its transitions and where these lead to."""
        names = [state[0] for state in self.states]
        values = {name: ("const", label, self.kind) for name, label in zip(names, self.labels)}
        return [[(condition, values[name]) for condition, _, name in row] for row in rows]

    def chosen(self, chooser, rows, otherwise):
        """Return the tree of the value behind the first True condition, in the row of the state that chooser has.

        If none of them is True, it has the value of the tree otherwise.
        """
        branches = []
        for label, row in zip(self.labels, rows):
            tree = otherwise
            for condition, value in reversed(row):
                tree = ("if", condition, value, tree)
            branches.append((label, ("when", tree, chooser, label)))
        return ("merge", chooser, tuple(branches))

    def call(self, k):
        """Return the equation that gives the variables of the block as state k does, while this state is active."""
        label = self.labels[k]
        name, inputs, _, _, _ = self.nodes[k]
        args = tuple([("when", ("var", x), self.now, label) for x, _ in inputs])
        return (tuple(self.given[k]), ("call", name, args, ("when", ("var", self.put), self.now, label)))

    def merged(self, j):
        """Return the equation of variable j of the block."""
        branches = [(label, ("var", row[j])) for label, row in zip(self.labels, self.given)]
        return ((self.variables[j][0],), ("merge", self.now, tuple(branches)))


def marks(rows):
    """Return, for each state, the pairs of the conditions of its transitions and whether these put back."""
    return [[(condition, TRUE if word == "then" else FALSE) for condition, word, _ in row] for row in rows]
