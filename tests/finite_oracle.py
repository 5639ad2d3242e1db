"""What [9.1] to [9.6] say, written down a second time and with no thought of speed; and random machines."""

import itertools
import random

from tests import meaning_oracle
from tests.making_oracle import values_in
from tests.samples import same


def rows_of(program):
    main = [node for node in program[1] if node[0] == program[2]][0]
    return tuple(itertools.product(*[values_in(program, kind) for _, kind in main[1]]))


def explored(program):
    """The states of a program and the table of its machine."""
    rows = rows_of(program)
    states, table = [meaning_oracle.beginning_of(program, program[2])], []
    while len(table) < len(states):
        entries = []
        for row in rows:
            told = meaning_oracle.instant(program, states[len(table)], row)
            if told is not None:
                found = [k for k, state in enumerate(states) if same(state, told[1])]
                if not found:
                    states.append(told[1])
                told = (told[0], found[0] if found else len(states) - 1)
            entries.append(told)
        table.append(tuple(entries))
    return states, tuple(table)


def is_int(value):
    return type(value) is int


def is_machine(value):
    if type(value) is not tuple or len(value) != 2 or type(value[0]) is not tuple or type(value[1]) is not tuple:
        return False
    rows, table = value
    if not rows or not table or any(type(row) is not tuple for row in rows + table):
        return False
    if any(same(rows[a], rows[b]) for a in range(len(rows)) for b in range(a)):
        return False
    for entries in table:
        if len(entries) != len(rows):
            return False
        for entry in entries:
            if entry is not None:
                if type(entry) is not tuple or len(entry) != 2 or type(entry[0]) is not tuple:
                    return False
                if not is_int(entry[1]) or not 0 <= entry[1] < len(table):
                    return False
    return order_of(table) == list(range(len(table)))


def order_of(table):
    """The states in the order in which they are come to."""
    found = [0]
    for s in found:
        found += [t for t in dict.fromkeys(entry[1] for entry in table[s] if entry is not None) if t not in found]
    return found


def run(machine, state, indexes):
    """The outputs of a run from a state, with None at the end if it ends in a fault."""
    found = []
    for r in indexes:
        entry = machine[1][state][r]
        if entry is None:
            return tuple(found) + (None,)
        found.append(entry[0])
        state = entry[1]
    return tuple(found)


def all_ways(machine, most):
    """All tuples of numbers of rows, the short ones first."""
    for many in range(1, most + 1):
        yield from itertools.product(range(len(machine[0])), repeat=many)


def first_fault(machine, most):
    for way in all_ways(machine, most):
        if run(machine, 0, way)[-1] is None and len(run(machine, 0, way)) == len(way):
            return way
    return None


def telling_row(one, other, most):
    for way in all_ways(one, most):
        if not same(run(one, 0, way), run(other, 0, way)):
            return way
    return None


def classes(one):
    """Numbers of states, which are put apart by what the first instant shows until nothing changes."""
    table = one[1]
    numbers = [0] * len(table)
    while True:
        told = [tuple(None if entry is None else (repr(entry[0]), numbers[entry[1]]) for entry in entries) for entries in table]
        rows = list(dict.fromkeys(told))
        found = [rows.index(row) for row in told]
        if found == numbers:
            return tuple(numbers)
        numbers = found


def random_machine(seed, states=6, rows=2, outputs=(0, 1), faults=0.05):
    """A machine whose states are numbered as they are come to."""
    chance = random.Random(seed)
    table = [[None if chance.random() < faults else ((chance.choice(outputs),), chance.randrange(states))
              for _ in range(rows)] for _ in range(states)]
    order = order_of(table)
    found = tuple(tuple(None if entry is None else (entry[0], order.index(entry[1])) for entry in table[s]) for s in order)
    return (tuple((r,) for r in range(rows)), found)
