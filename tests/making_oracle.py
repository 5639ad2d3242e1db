"""What [8.6] to [8.8] say, written down a second time and with no thought of speed."""

from tests.clock_oracle import least_clocking
from tests.fitting import values
from tests.machine_oracle import same
from tests.need_oracle import before


def node_of(program, name):
    return [node for node in program[1] if node[0] == name][0]


def needed(program, name):
    node = node_of(program, name)
    return {name}.union(*[needed(program, right[1]) for _, right in node[4] if right[0] == "call"])


def values_in(program, kind):
    """The values of a kind; sorts of any program."""
    return dict(program[0])[kind[1]] if kind[0] == "sort" else values(kind)


def made(program):
    names = [node[0] for node in program[1] if node[0] in needed(program, program[2])]
    return tuple(class_of(program, node_of(program, name), names) for name in names)


def class_of(program, node, names):
    clocks = least_clocking(node)
    kinds = {x: kind for row in node[1:4] for x, kind in row}
    memories = [n for n, (_, right) in enumerate(node[4]) if right[0] in ("pre", "fby")]
    calls = [n for n, (_, right) in enumerate(node[4]) if right[0] == "call"]
    body = []
    for n in first_order(before(node)):
        (x, *more), right = node[4][n]
        if n in memories:
            statement = ("set", x, ("cell", memories.index(n)))
        elif n in calls:
            reset = None if right[3] is None else lower(program, kinds, right[3])
            statement = ("call", (x, *more), calls.index(n), tuple(lower(program, kinds, arg) for arg in right[2]), reset)
        else:
            statement = ("set", x, lower(program, kinds, right))
        body.append(guard(clocks[x], statement))
    for k, n in enumerate(memories):
        (x,), right = node[4][n]
        body.append(guard(clocks[x], ("store", k, right[1] if right[0] == "pre" else ("const", False))))
    cells = tuple(True if node[4][n][1][0] == "fby" else values_in(program, kinds[node[4][n][0][0]])[0] for n in memories)
    inputs, outputs = (tuple(x for x, _ in row) for row in node[1:3])
    return (node[0], inputs, outputs, cells, tuple(names.index(node[4][n][1][1]) for n in calls), tuple(body))


def first_order(rows):
    """The least order, number by number: the least equation all of whose conditions are met."""
    found = []
    while len(found) < len(rows):
        found.append(min(n for n in range(len(rows)) if n not in found and rows[n] <= set(found)))
    return found


def guard(clock, statement):
    if not clock:
        return statement
    return ("case", clock[0][0], ((clock[0][1], (guard(clock[1:], statement),)),))


def lower(program, kinds, tree):
    word = tree[0]
    if word == "const":
        return tree[:2]
    if word == "var":
        return tree
    if word == "when":
        return lower(program, kinds, tree[1])
    if word == "merge":
        return ("select", tree[1], tuple((v, lower(program, kinds, part)) for v, part in tree[2]))
    parts = tuple(lower(program, kinds, part) for part in tree[1:])
    return (word, modulus(kinds, tree)) + parts if word in ("add", "sub", "mul") else (word,) + parts


def modulus(kinds, tree):
    while tree[0] not in ("const", "var"):
        if tree[0] == "merge":
            tree = tree[2][0][1]
        else:
            tree = tree[2 if tree[0] == "if" else 1]
    return (tree[2] if tree[0] == "const" else kinds[tree[1]])[1]


def joined(body, orders):
    """A body joined, two neighbours at a time, from the right to the left."""
    rows = []
    for statement in body:
        if statement[0] == "case":
            statement = ("case", statement[1], tuple((v, joined(inner, orders)) for v, inner in statement[2]))
            if all(inner == () for _, inner in statement[2]):
                continue
        rows.append(statement)
    k = len(rows) - 2
    while k >= 0:
        one, other = rows[k:k + 2]
        if one[0] == other[0] == "case" and one[1] == other[1]:
            rows[k:k + 2] = [united(one, other, orders)]
        k -= 1
    return tuple(rows)


def united(one, other, orders):
    branches = []
    for v in orders[one[1]]:
        mine = [inner for label, inner in one[2] if same(label, v)]
        yours = [inner for label, inner in other[2] if same(label, v)]
        if mine and yours:
            branches.append((v, joined(mine[0] + yours[0], orders)))
        elif mine or yours:
            branches.append((v, (mine + yours)[0]))
    return ("case", one[1], tuple(branches))


def dropped(machine):
    """One thing is taken out at a time, and the numbers move up at once."""
    machine = tuple(machine)
    while True:
        for at in range(len(machine)):
            smaller = smaller_class(machine[at])
            if smaller is not None:
                machine = machine[:at] + (smaller,) + machine[at + 1:]
                break
        else:
            gone = [at for at in range(len(machine)) if at not in parts_below(machine, len(machine) - 1)]
            if not gone:
                return machine
            machine = tuple(row[:4] + (tuple(k - (k > gone[0]) for k in row[4]),) + row[5:]
                            for at, row in enumerate(machine) if at != gone[0])


def parts_below(machine, at):
    return {at}.union(*[parts_below(machine, part) for part in machine[at][4]])


def smaller_class(row):
    name, inputs, outputs, cells, parts, body = row
    variables, numbers, called = set(outputs), set(), set()
    look(body, variables, numbers, called)
    for k in range(len(cells)):
        if k not in numbers:
            moved = change(body, lambda row: row[0] == "store" and row[1] == k, k, None)
            return (name, inputs, outputs, cells[:k] + cells[k + 1:], parts, moved)
    for k in range(len(parts)):
        if k not in called:
            return (name, inputs, outputs, cells, parts[:k] + parts[k + 1:], change(body, lambda row: False, None, k))
    idle = [row for row in flat(body) if row[0] == "set" and row[1] not in variables
            or row[0] == "call" and not variables & set(row[1])]
    if not idle:
        return None
    return (name, inputs, outputs, cells, parts, change(body, lambda row: row == idle[0], None, None))


def flat(body):
    for row in body:
        yield row
        if row[0] == "case":
            for _, inner in row[2]:
                yield from flat(inner)


def look(value, variables, numbers, called):
    """Gather what is read and called anywhere in statements."""
    for row in flat(value):
        trees = []
        if row[0] == "case":
            variables.add(row[1])
        elif row[0] == "call":
            called.add(row[2])
            trees = list(row[3]) + [row[4]] * (row[4] is not None)
        else:
            trees = [row[2]]
        while trees:
            tree = trees.pop()
            if tree[0] in ("var", "select"):
                variables.add(tree[1])
            if tree[0] == "cell":
                numbers.add(tree[1])
            if tree[0] == "select":
                trees += [part for _, part in tree[2]]
            elif tree[0] != "const":
                trees += [part for part in tree[1:] if isinstance(part, tuple)]


def change(body, gone, cell, part):
    """A body without some statements, where the numbers above that of a cell or a part are one less."""
    found = []
    for row in body:
        if gone(row):
            continue
        if row[0] == "case":
            branches = tuple((v, change(inner, gone, cell, part)) for v, inner in row[2])
            emptied = any(inner for _, inner in row[2]) and not any(inner for _, inner in branches)
            row = None if emptied else ("case", row[1], branches)
        elif row[0] == "call":
            k = row[2] - (part is not None and row[2] > part)
            reset = None if row[4] is None else tree_with(row[4], cell)
            row = ("call", row[1], k, tuple(tree_with(arg, cell) for arg in row[3]), reset)
        elif row[0] == "store":
            row = ("store", row[1] - (cell is not None and row[1] > cell), tree_with(row[2], cell))
        else:
            row = ("set", row[1], tree_with(row[2], cell))
        found += [row] * (row is not None)
    return tuple(found)


def tree_with(tree, cell):
    if tree[0] == "cell":
        return ("cell", tree[1] - (cell is not None and tree[1] > cell))
    if tree[0] in ("const", "var"):
        return tree
    if tree[0] == "select":
        return ("select", tree[1], tuple((v, tree_with(part, cell)) for v, part in tree[2]))
    return tuple(tree_with(part, cell) if isinstance(part, tuple) else part for part in tree)
