"""What [11.1] to [11.6] say of certificates, written down a second time, by way of single instants and steps."""

from everytick.meaning import beginning, instant, is_row, is_state
from everytick.steps import first_memory, step
from tests import need_oracle
from tests.clock_oracle import parts, trees_of
from tests.finite_oracle import rows_of
from tests.making_oracle import node_of, values_in
from tests.samples import same


def is_in(value, rows):
    return any(same(value, row) for row in rows)


def links(node):
    """All links of a node, both ways: triples of two places and what a step from the first to the second is."""
    found = []

    def link(one, other, word="even", pair=None):
        found.append((one, other, word, pair))
        found.append((other, one, {"even": "even", "below": "above"}[word], pair))

    for n, (names, _) in enumerate(node[4]):
        for x in names:
            link(x, (n, ()))
    for place, tree in trees_of(node).items():
        if tree is None:
            continue
        n, way = place
        for j, _ in enumerate(parts(tree)):
            part = (n, way + (j,))
            if tree[0] == "when":
                link(part, place, "below", (tree[2], tree[3]))
                link(part, tree[2])
            elif tree[0] == "merge":
                link(place, part, "below", (tree[1], tree[2][j][0]))
            else:
                link(place, part)
        if tree[0] in ("var", "merge"):
            link(place, tree[1])
    return found


def is_clocking(program, name, value):
    node = node_of(program, name)
    places = list(trees_of(node))
    kinds = {x: kind for row in node[1:4] for x, kind in row}
    if type(value) is not tuple or len(value) != len(places):
        return False
    for clock in value:
        if type(clock) is not tuple or any(type(pair) is not tuple or len(pair) != 2 for pair in clock):
            return False
        if any(type(x) is not str or x not in kinds or not is_in(v, values_in(program, kinds[x])) for x, v in clock):
            return False
    clocks = dict(zip(places, value))
    if any(clocks[x] != () for row in node[1:3] for x, _ in row):
        return False
    shift = {"even": lambda clock, pair: clock, "below": lambda clock, pair: clock + (pair,)}
    return all(same(clocks[other], shift[word](clocks[one], pair)) for one, other, word, pair in links(node) if word in shift)


def is_clash(program, name, value):
    node = node_of(program, name)
    places = list(trees_of(node))
    if type(value) is not tuple or len(value) < 2 or not all(is_in(place, places) for place in value):
        return False
    steps = []
    for one, other in zip(value, value[1:]):
        found = [(word, pair) for a, b, word, pair in links(node) if a == one and b == other]
        if not found:
            return False
        steps.append(found[0])
    row, count, first, second = [], 0, False, False
    for word, pair in steps:
        if word == "below":
            row, count = row + [pair], count + 1
        if word == "above":
            first = first or bool(row) and row[-1] != pair
            second = second or not row
            row, count = row[:-1], count - 1
    fixed = [x for part in node[1:3] for x, _ in part]
    return first or second and value[0] in fixed or value[0] == value[-1] and count != 0


def is_order(program, name, value):
    many = len(node_of(program, name)[4])
    if type(value) is not tuple or any(type(n) is not int for n in value) or sorted(value) != list(range(many)):
        return False
    return need_oracle.is_schedule(need_oracle.before(node_of(program, name)), value)


def is_ring(program, name, value):
    needed = need_oracle.needs(node_of(program, name))
    if type(value) is not tuple or not value or any(type(x) is not str or x not in needed for x in value):
        return False
    return all(y in needed[x] for x, y in zip(value, value[1:] + value[:1]))


def is_memory(machine, at, value):
    _, _, _, cells, inner, _ = machine[at]
    if type(value) is not tuple or len(value) != 2 or type(value[0]) is not tuple or type(value[1]) is not tuple:
        return False
    if len(value[0]) != len(cells) or any(type(cell) not in (bool, int, str, type(None)) for cell in value[0]):
        return False
    return len(value[1]) == len(inner) and all(is_memory(machine, part, row) for part, row in zip(inner, value[1]))


def are_pair(value):
    return type(value) is tuple and len(value) == 2


class Rules:
    """For a statement about runs: its beginning, its states by their form, and what an instant does.

    An instant is "wrong", or "over" if nothing is asked of what comes behind it, or the state behind it.
    """

    def __init__(self, word, program, other=None):
        self.word, self.program, self.other = word, program, other
        self.start = beginning(program)
        if word == "same":
            self.start = (self.start, beginning(other))
        if word == "carries":
            self.start = (self.start, first_memory(other))

    def is_state(self, value):
        if self.word == "sound":
            return is_state(self.program, value)
        if not are_pair(value) or not is_state(self.program, value[0]):
            return False
        if self.word == "same":
            return is_state(self.other, value[1])
        return is_memory(self.other, len(self.other) - 1, value[1])

    def instant(self, state, row):
        if self.word == "sound":
            told = instant(self.program, state, row)
            return "wrong" if told is None else told[1]
        mine = instant(self.program, state[0], row)
        if self.word == "carries":
            yours = mine and step(self.other, state[1], row)
        else:
            yours = instant(self.other, state[1], row)
        if mine is None and yours is None:
            return "over"
        if mine is None or yours is None or not same(mine[0], yours[0]):
            return "wrong"
        return (mine[1], yours[1])

    def is_closed(self, value):
        if type(value) is not tuple or not all(self.is_state(state) for state in value):
            return False
        if any(same(value[a], value[b]) for a in range(len(value)) for b in range(a)) or not is_in(self.start, value):
            return False
        told = [self.instant(state, row) for state in value for row in rows_of(self.program)]
        return all(behind == "over" or behind != "wrong" and is_in(behind, value) for behind in told)

    def is_way_out(self, value):
        if type(value) is not tuple or not value or not all(is_row(self.program, row) for row in value):
            return False
        state = self.start
        for row in value:
            if type(state) is str:
                return False
            state = self.instant(state, row)
        return state == "wrong"

    def found(self):
        """The certificate that is right: the word closed and a closed set, or the word out and a way out."""
        states, ways = [self.start], [()]
        for state in states:
            for row in rows_of(self.program):
                behind = self.instant(state, row)
                way = ways[states.index(state)] + (row,)
                if behind == "wrong":
                    return ("out", way)
                if behind != "over" and not is_in(behind, states):
                    states.append(behind)
                    ways.append(way)
        return ("closed", tuple(states))
