"""What [8.1] to [8.5] say, written down a second time, and random step machines from fixed seeds."""

import random

VALUES = (True, False, 0, 1, 2, 7, -1, 40, "A", "B", "", "true")
ODD = (None, True, False, 0, 1, -1, 99, "", "x", "set", (), ("x",), (None,), [], ("const", 1), ("var", "x"), 1.5, b"x", {})
ARITY = {"not": 1, "and": 2, "or": 2, "xor": 2, "eq": 2, "ne": 2, "less": 2, "leq": 2, "if": 3}


def same(a, b):
    return type(a) is type(b) and a == b


def is_int(value):
    return type(value) is int


def is_constant(value):
    return type(value) in (bool, int, str)


def is_variable(value):
    return type(value) is str and len(value) > 0


def is_index(value, many):
    return is_int(value) and 0 <= value < many


def is_machine(value):
    """Whether any value has the form of a step machine."""
    if type(value) is not tuple or len(value) == 0:
        return False
    for at, row in enumerate(value):
        if type(row) is not tuple or len(row) != 6:
            return False
        name, inputs, outputs, cells, parts, body = row
        if type(name) is not str or any(other[0] == name for other in value[:at]):
            return False
        if any(type(part) is not tuple for part in row[1:]):
            return False
        if not all(map(is_variable, inputs + outputs)) or not all(map(is_constant, cells)):
            return False
        if not all(is_index(part, at) for part in parts):
            return False
        calls = [value[part] for part in parts]
        if not all(is_statement(statement, len(cells), calls) for statement in body):
            return False
    return True


def is_statement(value, cells, calls):
    if type(value) is not tuple or len(value) < 3 or type(value[0]) is not str:
        return False
    if value[0] == "set":
        return len(value) == 3 and is_variable(value[1]) and is_tree(value[2], cells)
    if value[0] == "store":
        return len(value) == 3 and is_index(value[1], cells) and is_tree(value[2], cells)
    if value[0] == "case":
        return len(value) == 3 and is_variable(value[1]) and are_branches(value[2]) and all(
            type(body) is tuple and all(is_statement(row, cells, calls) for row in body) for _, body in value[2])
    if value[0] != "call" or len(value) != 5:
        return False
    _, names, k, args, reset = value
    if type(names) is not tuple or type(args) is not tuple or not is_index(k, len(calls)):
        return False
    if len(names) != len(calls[k][2]) or len(args) != len(calls[k][1]):
        return False
    trees = args if reset is None else args + (reset,)
    return all(map(is_variable, names)) and all(is_tree(tree, cells) for tree in trees)


def are_branches(value):
    if type(value) is not tuple or any(type(row) is not tuple or len(row) != 2 for row in value):
        return False
    labels = [label for label, _ in value]
    if not all(map(is_constant, labels)):
        return False
    return not any(same(a, b) for k, a in enumerate(labels) for b in labels[:k])


def is_tree(value, cells):
    if type(value) is not tuple or len(value) < 2 or type(value[0]) is not str:
        return False
    word, *rest = value
    if word in ("const", "var", "cell"):
        good = {"const": is_constant, "var": is_variable, "cell": lambda k: is_index(k, cells)}[word]
        return len(rest) == 1 and good(rest[0])
    if word == "select":
        if len(rest) != 2 or not is_variable(rest[0]) or not are_branches(rest[1]) or not rest[1]:
            return False
        return all(is_tree(part, cells) for _, part in rest[1])
    if word in ("add", "sub", "mul"):
        return len(rest) == 3 and is_int(rest[0]) and 2 <= rest[0] <= 32 and all(is_tree(part, cells) for part in rest[1:])
    return word in ARITY and len(rest) == ARITY[word] and all(is_tree(part, cells) for part in rest)


def value_of(tree, known, cells):
    word = tree[0]
    if word == "const":
        return tree[1]
    if word == "var":
        return known.get(tree[1])
    if word == "cell":
        return cells[tree[1]]
    if word == "select":
        found = [part for v, part in tree[2] if same(v, known.get(tree[1]))]
        return value_of(found[0], known, cells) if found else None
    if word in ("add", "sub", "mul"):
        a, b = [value_of(part, known, cells) for part in tree[2:]]
        if not is_int(a) or not is_int(b):
            return None
        return {"add": a + b, "sub": a - b, "mul": a * b}[word] % tree[1]
    parts = [value_of(part, known, cells) for part in tree[1:]]
    if word == "if":
        return parts[1] if parts[0] is True else parts[2] if parts[0] is False else None
    if None in [part for part in parts if part is None]:
        return None
    if word in ("eq", "ne"):
        return same(*parts) is (word == "eq")
    if word in ("less", "leq"):
        if not all(map(is_int, parts)):
            return None
        return parts[0] < parts[1] if word == "less" else not parts[1] < parts[0]
    if any(type(part) is not bool for part in parts):
        return None
    return {"not": lambda a: a is False, "and": lambda a, b: a is b is True, "or": lambda a, b: True in (a, b),
            "xor": lambda a, b: a is not b}[word](*parts)


def beginning(machine, at):
    return (machine[at][3], tuple(beginning(machine, part) for part in machine[at][4]))


def step(machine, at, memory, row):
    _, inputs, outputs, _, parts, body = machine[at]
    known = dict(zip(inputs, row))
    cells, inner = list(memory[0]), list(memory[1])
    rest = list(body)
    while rest:
        statement = rest.pop(0)
        if statement[0] == "set":
            known[statement[1]] = value_of(statement[2], known, cells)
        if statement[0] == "store":
            cells[statement[1]] = value_of(statement[2], known, cells)
        if statement[0] == "case":
            for v, body in statement[2]:
                if same(v, known.get(statement[1])):
                    rest = list(body) + rest
        if statement[0] == "call":
            _, names, k, args, reset = statement
            if reset is not None and value_of(reset, known, cells) is True:
                inner[k] = beginning(machine, parts[k])
            told, inner[k] = step(machine, parts[k], inner[k], [value_of(arg, known, cells) for arg in args])
            known.update(zip(names, told))
    return (tuple(known.get(x) for x in outputs), (tuple(cells), tuple(inner)))


def size(machine, at):
    return len(machine[at][3]) + sum(size(machine, part) for part in machine[at][4])


class Machines:
    """Makes random step machines, in which values of all kinds are mixed."""

    def __init__(self, seed):
        self.random = random.Random(seed)

    def value(self):
        return self.random.choice(VALUES)

    def name(self):
        return self.random.choice(("x", "y", "z", "w", "A longer name"))

    def machine(self):
        self.classes = ()
        for k in range(self.random.randint(1, 3)):
            inputs = tuple(self.random.sample(("x", "y", "z"), self.random.randint(0, 2)))
            outputs = tuple(self.name() for _ in range(self.random.randint(0, 2)))
            self.cells = tuple(self.value() for _ in range(self.random.randint(0, 3)))
            self.parts = tuple(self.random.randrange(k) for _ in range(self.random.randint(0, 2))) if k else ()
            body = self.body(3)
            self.classes += ((f"class {k}", inputs, outputs, self.cells, self.parts, body),)
        return self.classes

    def body(self, depth):
        return tuple(self.statement(depth) for _ in range(self.random.randint(0, 5)))

    def statement(self, depth):
        word = self.random.choice(("set", "set", "store", "call", "case"))
        if word == "store" and self.cells:
            return (word, self.random.randrange(len(self.cells)), self.tree(3))
        if word == "call" and self.parts:
            k = self.random.randrange(len(self.parts))
            callee = self.classes[self.parts[k]]
            names = tuple(self.name() for _ in callee[2])
            reset = self.random.choice((None, self.tree(2), ("const", True)))
            return (word, names, k, tuple(self.tree(3) for _ in callee[1]), reset)
        if word == "case" and depth > 1:
            return (word, self.name(), tuple((v, self.body(depth - 1)) for v in self.labels(0)))
        return ("set", self.name(), self.tree(4))

    def labels(self, least):
        found = []
        for _ in range(self.random.randint(least, 4)):
            value = self.value()
            if not any(same(value, other) for other in found):
                found.append(value)
        return found

    def tree(self, depth):
        if depth <= 1 or self.random.random() < 0.2:
            leaves = [("const", self.value()), ("var", self.name()), ("var", self.name())]
            leaves += [("cell", k) for k in range(len(self.cells))]
            return self.random.choice(leaves)
        word = self.random.choice(tuple(ARITY) + ("add", "sub", "mul", "select", "if", "eq"))
        if word == "select":
            return (word, self.name(), tuple((v, self.tree(depth - 1)) for v in self.labels(1)))
        if word in ("add", "sub", "mul"):
            return (word, self.random.randint(2, 32), self.tree(depth - 1), self.tree(depth - 1))
        return (word,) + tuple(self.tree(depth - 1) for _ in range(ARITY[word]))
