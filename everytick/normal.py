"""The normal form of programs, and how many cells it has ([7.1] to [7.6])."""

from everytick.clocks import place_clocks
from everytick.kinds import has_memory, kind_of, kinds_in
from everytick.places import expression_at, places_of
from everytick.programs import node_named, parts_of
from everytick.uses import expressions_in, needed

MARK = ("fby", ("const", True, "bool"), ("const", False, "bool"))


def is_plain(expression):
    """Tell whether no pre, arrow or fby stands in an expression."""
    return not has_memory(expression)


def is_normal(program):
    """Tell whether a program is in normal form."""
    return all([_is_normal_right(right) for node in program[1] for _, right in node[4]])


def _is_normal_right(right):
    """Tell whether an equation with this right side has one of the four forms."""
    if right == MARK or (right[0] == "pre" and right[1][0] == "var"):
        return True
    return all([is_plain(expression) for expression in expressions_in(right)])


def normalized(program):
    """Return the normal form of a program."""
    return (program[0], tuple([_normal_node(program, node) for node in program[1]]), program[2])


def _normal_node(program, node):
    form = NormalForm(program, node)
    for n in range(len(node[4])):
        form.take_equation(n)
    return (*node[:3], (*node[3], *form.added), tuple(form.body))


class NormalForm:
    """The normal form of one node, equation by equation: its new locals and its body."""

    def __init__(self, program, node):
        self.program = program
        self.node = node
        self.clocks = place_clocks(program, node[0])
        self.kinds = kinds_in(node)
        self.marks = {}
        self.count = 0
        self.added = []
        self.body = []

    def take_equation(self, n):
        """Add equation n of the node, behind those of the new variables that it needs."""
        names, right = self.node[4][n]
        if not _is_normal_right(right):
            right = self.normal_right(n, right)
        self.body.append((names, right))

    def normal_right(self, n, right):
        """Return what becomes of a right side that has none of the four forms."""
        if right[0] == "pre":
            return ("pre", self.as_variable(self.plain(right[1], (n, (0,)))))
        if right[0] != "call":
            return self.plain(right, (n, ()))
        parts = [self.plain(part, (n, (j,))) for j, part in enumerate(expressions_in(right))]
        many = len(right[2])
        return (*right[:2], tuple(parts[:many]), None if right[3] is None else parts[many])

    def plain(self, expression, place):
        """Return what becomes of the expression at a place when it is made plain."""
        n, way = place
        parts = [self.plain(part, (n, (*way, j))) for j, part in enumerate(parts_of(expression))]
        word = expression[0]
        if word == "pre":
            return self.delayed(parts[0])
        if word == "fby":
            delayed = self.delayed(parts[1])
            return ("if", self.mark_of(self.clocks[place]), parts[0], delayed)
        if word == "arrow":
            return ("if", self.mark_of(self.clocks[place]), *parts)
        return _with_parts(expression, parts)

    def delayed(self, expression):
        """Return a new variable that has what a plain expression had before."""
        return self.new_variable(("pre", self.as_variable(expression)))

    def as_variable(self, expression):
        """Return a plain expression itself if it is a variable, otherwise a new variable for it."""
        if expression[0] == "var":
            return expression
        return self.new_variable(expression)

    def mark_of(self, clock):
        """Return the mark of a clock, which is made when it is needed for the first time."""
        if clock not in self.marks:
            self.marks[clock] = self.new_variable(MARK)
        return self.marks[clock]

    def new_variable(self, right):
        """Return a new variable with an equation of its own."""
        while f"t{self.count}" in self.kinds:
            self.count += 1
        name = f"t{self.count}"
        kind = kind_of(self.program, self.kinds, right)
        self.kinds[name] = kind
        self.added.append((name, kind))
        self.body.append(((name,), right))
        return ("var", name)


def _with_parts(expression, parts):
    """Return an expression with other parts in the place of its own."""
    word = expression[0]
    if word == "when":
        return (word, parts[0], *expression[2:])
    if word == "merge":
        labels = [label for label, _ in expression[2]]
        return (word, expression[1], tuple(zip(labels, parts)))
    return (word, *parts) if parts else expression


def cell_count(program):
    """Return the number of cells of a program, told ahead of its normal form."""
    counts = {}
    for name in needed(program):
        counts[name] = _own_cells(program, name)
        for _, right in node_named(program, name)[4]:
            if right[0] == "call":
                counts[name] += counts[right[1]]
    return counts[program[2]]


def _own_cells(program, name):
    """Return how many equations with pre and how many marks a node has in the normal form."""
    body = node_named(program, name)[4]
    clocks = place_clocks(program, name)
    count = len([right for _, right in body if right == MARK])
    marks = set()
    for place in places_of(program, name):
        if isinstance(place, tuple) and body[place[0]][1] != MARK:
            word = expression_at(program, name, place)[0]
            if word in ("pre", "fby"):
                count += 1
            if word in ("arrow", "fby"):
                marks.add(clocks[place])
    return count + len(marks)
