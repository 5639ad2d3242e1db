"""[7.7] to [7.10]: copies, variables that are alike, and the shared form."""

import random
import unittest

from everytick.causality import is_right
from everytick.kinds import kinds_in
from everytick.meaning import run, trace
from everytick.normal import cell_count, normalized
from everytick.printing import print_program
from everytick.program_texts import read_program
from everytick.sharing import alike, shared
from everytick.states import translated
from everytick.uses import renamed
from tests.clock_oracle import least_clocking
from tests.righting import Righting
from tests.samples import same

HEADER = "node f(x: bool, z: bool, n: mod 8) -> (y: bool, w: bool)"
PAIR = ("node g(a: bool, b: mod 8) -> (c: bool, d: bool, e: mod 8)", "c = a fby a", "d = a fby a", "e = b", "end")


def read(*lines, inner="", before=(), header=HEADER):
    var = [f"var {inner}"] if inner else []
    value = read_program("\n".join([*before, header, *var, *lines, "end", "main f"]))
    assert is_right(value), lines
    return value


def groups(value, name="f"):
    """The groups of more than one variable, as words."""
    found = alike(value, name)
    node = [row for row in value[1] if row[0] == name][0]
    names = sorted(x for part in node[1:4] for x, _ in part)
    assert sorted(x for row in found for x in row) == names
    assert found == tuple(sorted(tuple(sorted(row)) for row in found))
    return [" ".join(row) for row in found if len(row) > 1]


class AlikeTest(unittest.TestCase):
    """[7.7], [7.8]"""

    def test_copies(self):
        value = read("y = a", "a = b", "b = x", "w = not c", "c = d", "d = y", inner="a: bool, b: bool, c: bool, d: bool")
        self.assertEqual(groups(value), ["a b c d x y"])
        value = read("y = a", "a = not x", "w = pre a", inner="a: bool")
        self.assertEqual(groups(value), ["a y"])
        self.assertEqual(alike(value, "f"), (("a", "y"), ("n",), ("w",), ("x",), ("z",)))

    def test_inputs_are_alike_with_themselves_alone(self):
        self.assertEqual(groups(read("y = x", "w = z")), ["w z", "x y"])
        self.assertEqual(groups(read("y = true", "w = pre true")), [])

    def test_doubles(self):
        self.assertEqual(groups(read("y = x and z", "w = x and z")), ["w y"])
        self.assertEqual(groups(read("y = x and z", "w = z and x")), [])
        self.assertEqual(groups(read("y = x and z", "w = x or z")), [])
        self.assertEqual(groups(read("y = x -> z", "w = x fby z")), [])
        self.assertEqual(groups(read("y = n = 3:8", "w = n = 3:8")), ["w y"])
        self.assertEqual(groups(read("y = n = 3:8", "w = n = 4:8")), [])
        self.assertEqual(groups(read("y = true", "w = true")), ["w y"])
        self.assertEqual(groups(read("y = true", "w = false")), [])
        self.assertEqual(groups(read("y = pre (x fby not z)", "w = pre (x fby not z)")), ["w y"])

    def test_doubles_of_doubles(self):
        value = read("a = not x", "b = not v", "v = x", "c = a and z", "d = b and z", "y = c", "w = d and d",
                     inner="a: bool, b: bool, v: bool, c: bool, d: bool")
        self.assertEqual(groups(value), ["a b", "c d y", "v x"])
        value = read("a = not x", "b = not z", "y = a and n = 0:8", "w = b and n = 0:8", inner="a: bool, b: bool")
        self.assertEqual(groups(value), [])

    def test_memories_that_refer_to_each_other(self):
        inner = "a: mod 8, b: mod 8, c: mod 8, d: mod 8"
        rest = ("y = x", "w = z")
        self.assertEqual(groups(read("a = 0:8 fby a + n", "b = 0:8 fby b + n", "c = 0:8 fby a + n", "d = 0:8 fby d + 1:8",
                                     *rest, inner=inner)), ["a b c", "w z", "x y"])
        self.assertEqual(groups(read("a = 0:8 fby b", "b = 1:8 fby a", "c = 0:8 fby d", "d = 1:8 fby c", *rest, inner=inner)),
                         ["a c", "b d", "w z", "x y"])
        self.assertEqual(groups(read("a = 0:8 fby b", "b = 1:8 fby a", "c = 0:8 fby d", "d = 2:8 fby c", *rest, inner=inner)),
                         ["w z", "x y"])
        self.assertEqual(groups(read("a = 0:8 fby b", "b = 0:8 fby c", "c = 0:8 fby d", "d = 0:8 fby a", *rest, inner=inner)),
                         ["a b c d", "w z", "x y"])
        self.assertEqual(groups(read("a = 0:8 fby b", "b = 0:8 fby c", "c = 0:8 fby d", "d = 0:8 fby n", *rest, inner=inner)),
                         ["w z", "x y"])

    def test_kinds(self):
        value = read("a = pre a", "b = pre b", "c = pre c", "d = pre d", "y = x", "w = z",
                     inner="a: mod 8, b: mod 4, c: mod 8, d: bool")
        self.assertEqual(groups(value), ["a c", "w z", "x y"])
        text = ("sort E = A | B\nsort D = F | G\nnode f(x: bool) -> (y: bool)\nvar a: E, b: D, c: E\na = pre a\nb = pre b\n"
                "c = pre c\ny = x\nend\nmain f")
        self.assertEqual(groups(read_program(text)), ["a c", "x y"])
        value = read("a = 0:8 fby a + 1:8", "b = 0:4 fby b + 1:4", "y = x", "w = z", inner="a: mod 8, b: mod 4")
        self.assertEqual(groups(value), ["w z", "x y"])

    def test_calls(self):
        inner = "a: bool, b: bool, i: mod 8, c: bool, d: bool, j: mod 8"
        rest = ("y = x", "w = z")
        one = "(a, b, i) = g({}, n){}"
        two = "(c, d, j) = g({}, n){}"
        for first, second, expected in (
                (one.format("x", ""), two.format("x", ""), ["a c", "b d", "i j", "w z", "x y"]),
                (one.format("x", " every z"), two.format("y", " every w"), ["a c", "b d", "i j", "w z", "x y"]),
                (one.format("x", ""), two.format("z", ""), ["w z", "x y"]),
                (one.format("x", ""), two.format("x", " every z"), ["w z", "x y"]),
                (one.format("x", " every x"), two.format("x", " every z"), ["w z", "x y"]),
                (one.format("pre a", ""), two.format("pre c", ""), ["a c", "b d", "i j", "w z", "x y"]),
                (one.format("pre a", " every pre d"), two.format("pre c", " every pre b"), ["a c", "b d", "i j", "w z", "x y"]),
                (one.format("pre a", ""), two.format("pre b", ""), ["w z", "x y"])):
            value = read(first, second, *rest, inner=inner, before=PAIR)
            self.assertEqual(groups(value), expected, (first, second))
        other = ("node h(a: bool, b: mod 8) -> (c: bool, d: bool, e: mod 8)",) + PAIR[1:]
        value = read(one.format("x", ""), two.format("x", "").replace("g(", "h("), *rest, inner=inner, before=PAIR + other)
        self.assertEqual(groups(value), ["w z", "x y"])

    def test_variables_of_one_call_are_not_alike(self):
        value = read("(y, w, i) = g(x, n)", inner="i: mod 8", before=PAIR)
        self.assertEqual(groups(value), [])

    def test_clocks(self):
        inner = "a: bool, b: bool, c: bool, d: bool"
        end = "merge x (false -> b) (true -> a)"
        value = read("a = true fby a", "b = true fby b", "c = true fby c", "d = true fby d", f"y = {end} and c and d", "w = z",
                     inner=inner)
        self.assertEqual(groups(value), ["c d", "w z"])
        value = read("a = true fby a", "b = pre x", "c = true fby c", "d = true when x", "w = c and b",
                     "y = merge x (false -> true) (true -> a and d)", inner=inner)
        self.assertEqual(groups(value), [])
        value = read("a = true fby a", "c = true fby c", "b = true fby b", "d = merge z (false -> true) (true -> b)",
                     "y = merge x (false -> true) (true -> a and c)", "w = d", inner=inner)
        self.assertEqual(groups(value), ["a c", "d w"])

    def test_clocks_of_variables_that_are_alike(self):
        value = read("c = not x", "d = not x", "a = z when c", "b = z when d", "y = merge c (false -> true) (true -> a)",
                     "w = merge d (false -> true) (true -> b)", inner="a: bool, b: bool, c: bool, d: bool")
        self.assertEqual(groups(value), ["a b", "c d", "w y"])
        value = read("c = x", "a = z when c", "b = z when x", "y = merge c (false -> true) (true -> a)",
                     "w = merge x (false -> true) (true -> b)", inner="a: bool, b: bool, c: bool")
        self.assertEqual(groups(value), ["a b", "c x", "w y"])

    def test_values_of_clocks(self):
        value = read("a = true fby a", "b = true fby b", "y = merge m (0 -> a) (1 -> true)", "w = merge m (0 -> true) (1 -> b)",
                     "m = 0:2 fby m + 1:2", inner="a: bool, b: bool, m: mod 2")
        self.assertEqual(groups(value), [])
        value = read("a = x when c", "b = x when not c", "c = z fby x", "y = x", "w = merge c (false -> b) (true -> a)",
                     inner="a: bool, b: bool, c: bool")
        self.assertEqual(groups(value), ["x y"])

    def test_labels_of_samplers(self):
        value = read("a = x when n is 1", "b = x when n is 2", "c = x when n is 1", "y = x", "w = z",
                     inner="a: bool, b: bool, c: bool")
        self.assertEqual(groups(value), ["a c", "w z", "x y"])

    def test_other_nodes(self):
        value = read("y = x", "w = z", before=("node g(a: bool) -> (b: bool, c: bool)", "b = pre a", "c = pre a", "end"))
        self.assertEqual(groups(value, "g"), ["b c"])


def alike_oracle(program, name):
    """The greatest relation, by taking away what cannot stand in it."""
    node = [row for row in program[1] if row[0] == name][0]
    kinds = kinds_in(node)
    clocks = least_clocking(node)
    copies = {names[0]: right[1] for names, right in node[4] if right[0] == "var"}
    homes = {x: (k, right) for names, right in node[4] for k, x in enumerate(names)}

    def source(x):
        return source(copies[x]) if x in copies else x

    sources = [x for x in kinds if x not in copies]
    related = {(x, y) for x in sources for y in sources if x == y or x in homes and y in homes}

    def fit(one, other, place=""):
        """Whether two right sides are the same but for variables that are related."""
        if place == "name":
            return (source(one), source(other)) in related
        if type(one) is not tuple or type(other) is not tuple:
            return type(one) is type(other) and one == other
        if len(one) != len(other):
            return False
        places = ["" for _ in one]
        if one and one[0] in ("var", "merge") and len(one) > 1:
            places[1] = "name"
        if one and one[0] == "when":
            places[2] = "name"
        return all(fit(*row) for row in zip(one, other, places))

    def stays(x, y):
        if x == y:
            return True
        if kinds[x] != kinds[y] or homes[x][0] != homes[y][0] or not fit(homes[x][1], homes[y][1]):
            return False
        if len(clocks[x]) != len(clocks[y]):
            return False
        return all(fit(a, b, "name") and fit(v, w) for (a, v), (b, w) in zip(clocks[x], clocks[y]))

    while True:
        left = {pair for pair in related if stays(*pair)}
        if left == related:
            break
        related.clear()
        related.update(left)
    found = {tuple(sorted(y for y in kinds if (source(x), source(y)) in related)) for x in kinds}
    return tuple(sorted(found))


class SharedTest(unittest.TestCase):
    """[7.9]"""

    def form(self, lines, expected, inner="", left="", before=(), header=HEADER):
        value = read(*lines, inner=inner, before=before, header=header)
        found = shared(value)
        text = print_program(found).split("\n")
        rows = text[text.index(header) + 1:-2]
        if left:
            self.assertEqual(rows[0], f"var {left}")
            rows = rows[1:]
        self.assertEqual(rows, expected)
        self.assertTrue(same(shared(found), found))
        self.assertTrue(is_right(found))

    def test_nothing_to_share(self):
        lines = ["y = x and z", "w = pre y", "a = n + 1:8"]
        self.form(lines, lines, "a: mod 8", "a: mod 8")

    def test_copies(self):
        self.form(["y = a", "a = b", "b = x", "w = not a"], ["y = x", "w = not x"], "a: bool, b: bool")
        self.form(["y = a", "a = not x", "w = pre y"], ["y = a", "a = not x", "w = pre a"], "a: bool", "a: bool")
        self.form(["y = w", "w = not x"], ["y = w", "w = not x"])

    def test_the_first_equation_that_is_no_copy_gives_the_chosen_one(self):
        self.form(["b = not x", "a = not x", "y = a", "w = b and a"], ["b = not x", "y = b", "w = b and b"],
                  "a: bool, b: bool", "b: bool")
        self.form(["y = not x", "a = not x", "w = a and y"], ["y = not x", "w = y and y"], "a: bool")
        self.form(["a = not x", "y = not x", "w = y and a"], ["a = not x", "y = a", "w = a and a"], "a: bool", "a: bool")

    def test_outputs_that_are_alike(self):
        self.form(["y = not x", "w = not x"], ["y = not x", "w = y"])
        self.form(["w = not x", "y = not x"], ["w = not x", "y = w"])
        self.form(["y = x", "w = x"], ["y = x", "w = x"])

    def test_doubles_of_memories(self):
        self.form(["a = 0:8 fby a + n", "b = 0:8 fby b + n", "y = a = 3:8", "w = b = 3:8"],
                  ["a = 0:8 fby a + n", "y = a = 3:8", "w = y"], "a: mod 8, b: mod 8", "a: mod 8")
        self.form(["a = 0:8 fby b + n", "b = 0:8 fby a + n", "y = a = 3:8", "w = b = 4:8"],
                  ["a = 0:8 fby a + n", "y = a = 3:8", "w = a = 4:8"], "a: mod 8, b: mod 8", "a: mod 8")

    def test_calls(self):
        self.form(["(a, b, i) = g(x, n)", "(y, w, j) = g(x, n)", "k = i + j"],
                  ["(a, b, i) = g(x, n)", "y = a", "w = b", "k = i + i"],
                  "a: bool, b: bool, i: mod 8, j: mod 8, k: mod 8", "a: bool, b: bool, i: mod 8, k: mod 8", before=PAIR)
        self.form(["(w, y, j) = g(x, n) every z", "(a, b, i) = g(x, n) every z"], ["(w, y, j) = g(x, n) every z"],
                  "a: bool, b: bool, i: mod 8, j: mod 8", "j: mod 8", before=PAIR)
        self.form(["(a, b, i) = g(x, n)", "(w, y, j) = g(x, n)"], ["(a, b, i) = g(x, n)", "w = a", "y = b"],
                  "a: bool, b: bool, i: mod 8, j: mod 8", "a: bool, b: bool, i: mod 8", before=PAIR)

    def test_samplers(self):
        self.form(["c = not x", "d = not x", "a = z when c", "b = z when d", "y = merge c (false -> true) (true -> a)",
                   "w = merge d (false -> z when not d) (true -> b)"],
                  ["c = not x", "a = z when c", "y = merge c (false -> true) (true -> a)",
                   "w = merge c (false -> z when not c) (true -> a)"],
                  "a: bool, b: bool, c: bool, d: bool", "a: bool, c: bool")
        self.form(["c = x", "y = merge c (false -> true) (true -> z when c)", "w = pre c"],
                  ["y = merge x (false -> true) (true -> z when x)", "w = pre x"], "c: bool")

    def test_every_node(self):
        before = ("node h(a: bool) -> (b: bool, c: bool)", "b = pre a", "c = pre a", "end")
        value = read("y = x", "w = z", before=before)
        self.assertEqual(print_program(shared(value)).split("\n")[1:3], ["b = pre a", "c = b"])

    def test_doubles_in_the_normal_form(self):
        value = read("y = false fby x and y", "w = (false fby x and y) -> z")
        self.assertEqual((cell_count(normalized(value)), cell_count(shared(normalized(value)))), (3, 2))


class RandomTest(unittest.TestCase):
    """[7.8], [7.10]"""

    def doubled(self, value, chooser, whole):
        """Each node with doubles of its locals: all of them, or some whose doubles may stand in for them."""
        return (value[0], tuple(self.doubled_node(value, node, chooser, whole) for node in value[1]), value[2])

    def doubled_node(self, value, node, chooser, whole):
        alone = (value[0], value[1][:value[1].index(node)] + (node,), node[0])
        names = [x for part in node[2:4] for x, _ in part]
        fresh = {x: f"d{k}" for k, x in enumerate(names)}
        kinds = kinds_in(node)
        twin = renamed(alone, fresh)[1][-1]
        body = []
        kept = []
        samplers = samplers_in(node[4])
        for (left, right), (other, other_right) in zip(node[4], twin[4]):
            body.append((left, right))
            if whole:
                body.append((other, other_right))
                kept += list(other)
            elif chooser.random() < 0.6:
                body.append((other, right))
                kept += list(other)
        if not whole:
            body = [(left, mixed(right, {x: d for x, d in fresh.items() if d in kept and x not in samplers}, chooser))
                    for left, right in body]
        chooser.shuffle(body)
        back = {d: x for x, d in fresh.items()}
        return node[:3] + (node[3] + tuple((d, kinds[back[d]]) for d in sorted(kept)), tuple(body))

    def test_shared_forms(self):
        fewer = 0
        for seed in range(240):
            maker = Righting(seed, nil=(0, 0.1, 0.5)[seed % 3], blocks=0.3 * (seed % 2))
            value = translated(maker.program(1 + seed % 3))
            if seed % 3:
                value = normalized(value)
            rows = maker.rows(value, 5)
            value = self.doubled(value, random.Random(seed), seed % 2 == 0)
            self.assertTrue(is_right(value))
            found = shared(value)
            self.assertTrue(is_right(found))
            self.assertTrue(same(shared(found), found))
            self.assertTrue(same(run(found, rows), run(value, rows)))
            self.assertLessEqual(cell_count(found), cell_count(value))
            fewer += cell_count(found) < cell_count(value)
            for node in value[1]:
                self.assertEqual(alike(value, node[0]), alike_oracle(value, node[0]))
            self.check_values(value, rows)
        self.assertGreater(fewer, 60)

    def check_values(self, value, rows):
        """Variables that are alike are present at the same instants, with the same values."""
        node = [row for row in value[1] if row[0] == value[2]][0]
        names = [x for part in node[1:4] for x, _ in part]
        for told in trace(value, rows):
            for row in alike(value, value[2]):
                self.assertEqual(len({repr(told[names.index(x)]) for x in row}), 1)


def samplers_in(body):
    """The variables of all when and merge in some equations."""
    found = set()
    rest = [right for _, right in body]
    while rest:
        tree = rest.pop()
        if isinstance(tree, tuple):
            found |= {tree[2]} if tree[:1] == ("when",) else {tree[1]} if tree[:1] == ("merge",) else set()
            rest += tree
    return found


def mixed(tree, twins, chooser):
    """A right side in which some variables are exchanged for their doubles."""
    if not isinstance(tree, tuple):
        return tree
    if tree[:1] == ("var",):
        return ("var", twins[tree[1]]) if tree[1] in twins and chooser.random() < 0.5 else tree
    return tuple(mixed(part, twins, chooser) for part in tree)
