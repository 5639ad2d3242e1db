"""What [3.2] to [3.8] say, written down a second time and in another way, to judge the program by."""


def parts(tree):
    if tree[0] in ("const", "var"):
        return ()
    if tree[0] == "when":
        return (tree[1],)
    if tree[0] == "merge":
        return tuple(part for _, part in tree[2])
    if tree[0] == "call":
        return tree[2] + (() if tree[3] is None else (tree[3],))
    return tree[1:]


def trees_of(node):
    """A dict from the places of a node to their trees, None for variables, in the order of places_of."""
    found = {x: None for row in node[1:4] for x, _ in row}

    def put(n, way, tree):
        found[(n, way)] = tree
        for j, part in enumerate(parts(tree)):
            put(n, way + (j,), part)

    for n, (_, right) in enumerate(node[4]):
        put(n, (), right)
    return found


def all_links(node):
    """A dict from the linked pairs of places to the link, in both directions."""
    found = {}

    def even(one, other):
        found[one, other] = found[other, one] = ("even",)

    def below(upper, lower, x, v):
        found[upper, lower] = ("below", x, v)
        found[lower, upper] = ("above", x, v)

    for n, (names, _) in enumerate(node[4]):
        for x in names:
            even(x, (n, ()))
    for place, tree in trees_of(node).items():
        if tree is None:
            continue
        children = [(place[0], place[1] + (j,)) for j in range(len(parts(tree)))]
        if tree[0] == "var":
            even(place, tree[1])
        elif tree[0] == "when":
            below(children[0], place, tree[2], tree[3])
            even(children[0], tree[2])
        elif tree[0] == "merge":
            even(place, tree[1])
            for child, (v, _) in zip(children, tree[2]):
                below(place, child, tree[1], v)
        else:
            for child in children:
                even(place, child)
    return found


class Unclocked(Exception):
    pass


class Unification:
    """Clocks as equations: each class of places has at most one class right above it."""

    def __init__(self):
        self.leader = {}
        self.above = {}

    def find(self, place):
        self.leader.setdefault(place, place)
        while self.leader[place] != place:
            place = self.leader[place]
        return place

    def unite(self, one, other):
        one, other = self.find(one), self.find(other)
        if one == other:
            return
        self.leader[other] = one
        if other in self.above:
            upper, pair = self.above.pop(other)
            self.put_below(upper, one, pair)

    def put_below(self, upper, lower, pair):
        lower = self.find(lower)
        if lower not in self.above:
            self.above[lower] = (upper, pair)
            return
        other, other_pair = self.above[lower]
        if other_pair != pair:
            raise Unclocked()
        self.unite(upper, other)

    def clock(self, place, limit):
        clock = ()
        place = self.find(place)
        while place in self.above:
            upper, pair = self.above[place]
            clock = (pair,) + clock
            place = self.find(upper)
            if len(clock) > limit:
                raise Unclocked()
        return clock


def least_clocking(node):
    """The least clocking of a node as a dict, or None."""
    places = trees_of(node)
    union = Unification()
    bases = [x for x, _ in node[1] + node[2]]
    try:
        for x in bases:
            union.unite(bases[0], x)
        for (one, other), link in all_links(node).items():
            if link[0] == "even":
                union.unite(one, other)
            elif link[0] == "below":
                union.put_below(one, other, link[1:])
        clocks = {place: union.clock(place, len(places)) for place in places}
    except Unclocked:
        return None
    return clocks if clocks[bases[0]] == () else None


def is_clocking(node, clocks):
    """Whether a dict from places to clocks is a clocking ([3.4])."""
    if set(clocks) != set(trees_of(node)) or any(clocks[x] != () for row in node[1:3] for x, _ in row):
        return False
    for (one, other), link in all_links(node).items():
        if link[0] == "even" and clocks[one] != clocks[other]:
            return False
        if link[0] == "below" and clocks[other] != clocks[one] + (link[1:],):
            return False
    return True


def clash_cases(node, chain):
    """The list of the cases of [3.7] that make a chain a clash; None if it is no chain."""
    links = all_links(node)
    if not isinstance(chain, tuple) or len(chain) < 2:
        return None
    base = [x for row in node[1:3] for x, _ in row]
    row = []
    cases = set()
    height = 0
    for one, other in zip(chain, chain[1:]):
        if (one, other) not in links:
            return None
        word, *pair = links[one, other]
        if word == "below":
            row.append(pair)
            height += 1
        elif word == "above":
            height -= 1
            if not row:
                if chain[0] in base:
                    cases.add(2)
            elif row.pop() != pair:
                cases.add(1)
    if chain[0] == chain[-1] and height != 0:
        cases.add(3)
    return sorted(cases)
