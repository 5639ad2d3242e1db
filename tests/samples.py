"""Values that many tests need: trees, programs, wrong values, and random ones from fixed seeds."""

import itertools
import random

TRUE = ("const", True, "bool")
FALSE = ("const", False, "bool")
X = ("var", "x")
Y = ("var", "y")
SORTS = (("Color", ("Red", "Green", "Blue")), ("Red", ("On", "Off")))

# Values of kinds that stand nowhere in a program, or that are easily taken for others.
ODD_VALUES = (
    None, True, False, 0, 1, -1, 33, "", "x", "X", "bool", (), (None,), ("x",), ("mod", 8), [], [1], {}, {"x": 1},
    (1, 2, 3, 4, 5, 6), ("var",), ("var", "x", "x"), 1.0, b"x",
)


def number(value, modulus=8):
    return ("const", value, ("mod", modulus))


def deep(depth, leaf=X):
    """A tree of this depth."""
    tree = leaf
    for _ in range(depth - 1):
        tree = ("not", tree)
    return tree


def nested_value(depth):
    """A value of tuples inside each other."""
    value = ()
    for _ in range(depth):
        value = (value,)
    return value


def node(body, inputs=(("x", "bool"),), outputs=(("y", "bool"),), inner=(), name="f"):
    return (name, tuple(inputs), tuple(outputs), tuple(inner), tuple(body))


def program(*nodes, sorts=(), main=None):
    return (tuple(sorts), tuple(nodes), nodes[-1][0] if main is None else main)


def one_node(*body, **options):
    """A program of one node with these equations."""
    sorts = options.pop("sorts", ())
    main = options.pop("main", None)
    return program(node(body, **options), sorts=sorts, main=main)


def block(*states):
    return ("states", tuple(states))


def state(name, equations=(), unless=(), until=()):
    return (name, tuple(equations), tuple(unless), tuple(until))


def paths(value, path=()):
    """The ways to all values in a value of tuples."""
    yield path
    if isinstance(value, tuple):
        for k, part in enumerate(value):
            yield from paths(part, path + (k,))


def value_at(value, path):
    for k in path:
        value = value[k]
    return value


def replaced(value, path, new):
    """The value with another value at a place in it."""
    if not path:
        return new
    k = path[0]
    return value[:k] + (replaced(value[k], path[1:], new),) + value[k + 1:]


def same(one, other):
    """Whether two values are the same, where True and 1 are different."""
    if isinstance(one, tuple) and isinstance(other, tuple):
        return len(one) == len(other) and all(same(a, b) for a, b in zip(one, other))
    return type(one) is type(other) and one == other


SMALL_NAMES = ("x", "y", "z", "a1", "longname", "n", "e", "s", "t0", "for")
GREAT_NAMES = ("Red", "Green", "A", "Z9", "Longname", "True", "On")
SIGNS_OF_TWO = ("and", "or", "xor", "eq", "ne", "less", "leq", "add", "sub", "mul", "arrow", "fby")


class Maker:
    """Random values of the form of programs; whether they fit does not matter."""

    def __init__(self, seed, sorts=SORTS):
        self.random = random.Random(seed)
        self.sorts = sorts

    def name(self):
        return self.random.choice(SMALL_NAMES)

    def great(self):
        return self.random.choice(GREAT_NAMES)

    def kind(self):
        kinds = ["bool", ("mod", self.random.randint(2, 32))] + [("sort", name) for name, _ in self.sorts]
        return self.random.choice(kinds)

    def constant(self):
        kind = self.kind()
        if kind == "bool":
            return ("const", self.random.choice((True, False)), kind)
        if kind[0] == "mod":
            return ("const", self.random.randrange(kind[1]), kind)
        return ("const", self.random.choice(dict(self.sorts)[kind[1]]), kind)

    def label(self):
        return self.random.choice((True, False, self.random.randrange(32), 0, 1, self.great()))

    def labels(self, count):
        found = []
        while len(found) < count:
            label = self.label()
            if not any(same(label, other) for other in found):
                found.append(label)
        return found

    def tree(self, depth):
        """A tree of at most this depth."""
        if depth <= 1 or self.random.random() < 0.1:
            return self.random.choice((("var", self.name()), self.constant()))
        word = self.random.choice(SIGNS_OF_TWO + ("not", "not", "pre", "pre", "if", "if", "when", "when", "merge"))
        if word == "when":
            return (word, self.tree(depth - 1), self.name(), self.label())
        if word == "merge":
            labels = self.labels(self.random.randint(2, 4))
            return (word, self.name(), tuple((label, self.tree(depth - 1)) for label in labels))
        count = {"not": 1, "pre": 1, "if": 3}.get(word, 2)
        return (word,) + tuple(self.tree(depth - 1) for _ in range(count))

    def right(self, names):
        if len(names) == 1 and self.random.random() < 0.6:
            return self.tree(4)
        args = tuple(self.tree(3) for _ in range(self.random.randint(0, 3)))
        return ("call", self.name(), args, self.random.choice((None, self.tree(3))))

    def equation(self):
        names = tuple(self.name() for _ in range(self.random.choice((1, 1, 1, 2, 3))))
        return (names, self.right(names))

    def transitions(self):
        many = self.random.randint(0, 2)
        return tuple((self.tree(3), self.random.choice(("then", "continue")), self.great()) for _ in range(many))

    def block(self):
        names = self.random.sample(GREAT_NAMES, self.random.randint(2, 4))
        return ("states", tuple(
            (name, tuple(self.equation() for _ in range(self.random.randint(0, 2))),
             self.transitions(), self.transitions()) for name in names))

    def variables(self, least):
        return tuple((self.name(), self.kind()) for _ in range(self.random.randint(least, 3)))

    def node(self):
        entries = [self.block() if self.random.random() < 0.3 else self.equation()
                   for _ in range(self.random.randint(1, 4))]
        return (self.name(), self.variables(0), self.variables(1), self.variables(0), tuple(entries))

    def program(self):
        return (self.sorts, tuple(self.node() for _ in range(self.random.randint(1, 3))), self.name())


def every_tree():
    """A tree of each word and, of when, of each form of v."""
    yield TRUE
    yield FALSE
    yield number(5)
    yield ("const", "Green", ("sort", "Color"))
    yield X
    for word in SIGNS_OF_TWO:
        yield (word, X, Y)
    yield ("not", X)
    yield ("pre", X)
    yield ("if", X, Y, TRUE)
    for label in (True, False, 0, 1, 31, "Green"):
        yield ("when", X, "c", label)
    yield ("merge", "c", ((False, X), (True, Y)))
    yield ("merge", "c", ((0, X), (1, Y), (False, X), (True, Y), ("Green", X)))


def pairs_of_trees():
    return itertools.product(list(every_tree()), repeat=2)
