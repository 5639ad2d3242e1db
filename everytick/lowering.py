"""Expressions as trees that can be worked out without a look at kinds and clocks."""

from everytick.kinds import MEMORIES, kind_of, kinds_in
from everytick.programs import parts_of

NUMBERS = ("add", "sub", "mul")


class Lowering:
    """Makes lower trees of the expressions of one node, and numbers their memories in the order of [4.2].

    A lower tree is a machine expression ([8.2]): the modulus stands ahead of the parts of add, sub and mul, a
    constant has its value alone, select stands in the place of merge, and the part of a when in its place. The
    memories that machine expressions do not have stay, with their number ahead of their parts.
    """

    def __init__(self, program, node):
        self.program = program
        self.kinds = kinds_in(node)
        self.memories = []

    def tree_of(self, expression):
        """Return the lower tree of an expression."""
        word = expression[0]
        if word == "var":
            return expression
        if word == "const":
            return expression[:2]
        if word == "when":
            return self.tree_of(expression[1])
        if word == "merge":
            branches = [(v, self.tree_of(part)) for v, part in expression[2]]
            return ("select", expression[1], tuple(branches))
        head = [word]
        if word in NUMBERS:
            head.append(kind_of(self.program, self.kinds, expression)[1])
        if word in MEMORIES:
            head.append(self.new_memory(expression))
        return (*head, *[self.tree_of(part) for part in parts_of(expression)])

    def new_memory(self, expression):
        """Return the number of a further memory; an arrow holds no value, so there is no kind of it."""
        kind = None
        if expression[0] != "arrow":
            kind = kind_of(self.program, self.kinds, expression)
        self.memories.append(kind)
        return len(self.memories) - 1

    def first_cells(self):
        """Return the tuple of what the memories hold at the beginning."""
        return ((),) * len(self.memories)
