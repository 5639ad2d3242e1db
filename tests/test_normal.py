"""[7.1] to [7.6]: plain expressions, the normal form, and the number of cells."""

import unittest

from everytick.causality import is_right
from everytick.clocks import clocks_of
from everytick.kinds import kind_of, kinds_in
from everytick.meaning import run, trace
from everytick.normal import cell_count, is_normal, is_plain, normalized
from everytick.printing import print_program
from everytick.program_texts import read_program
from everytick.programs import is_program
from everytick.reading import read_expression
from everytick.states import translated
from tests.righting import Righting
from tests.samples import same

HEADER = "node f(x: bool, z: bool, n: mod 8) -> (y: bool, k: mod 8)"
COUNT = ("node count(up: bool) -> (k: mod 8)", "k = (0:8 fby k) + (if up then 1:8 else 0:8)", "end")


def read(*lines, inner="", before=(), header=HEADER):
    var = [f"var {inner}"] if inner else []
    value = read_program("\n".join([*before, header, *var, *lines, "end", "main f"]))
    assert is_right(value), lines
    return value


class FormTest(unittest.TestCase):
    """[7.1]"""

    def test_plain(self):
        for text in ("true", "x", "not x", "(x and y) = (z or x)", "if x then 1:2 + n else n", "x when y when z",
                     "merge x (false -> y) (true -> merge z (0 -> a) (1 -> b))", "x when y is Red"):
            self.assertIs(is_plain(read_expression((), text)), True, text)
        for text in ("pre x", "x -> y", "x fby y", "not (pre x)", "x and (y -> z)", "if x then y else (z fby x)",
                     "merge x (false -> y) (true -> pre y)", "merge x (false -> y) (true -> merge z (0 -> a -> b) (1 -> b))",
                     "true fby false"):
            self.assertIs(is_plain(read_expression((), text)), False, text)

    def test_the_four_forms(self):
        for line in ("y = x and not z", "y = pre x", "y = pre y", "y = true fby false", "y = merge x (false -> z when not x) "
                     "(true -> true)", "y = true"):
            self.assertIs(is_normal(read(line, "k = n")), True, line)
        for line in ("y = pre true", "y = pre (not x)", "y = pre pre x", "y = not (pre x)", "y = x -> z", "y = x fby z",
                     "y = true fby true", "y = false fby false", "y = false fby true", "y = true fby x", "y = x fby false",
                     "y = not (true fby false)", "y = pre (true fby false)",
                     "y = merge x (false -> pre (z when not x)) (true -> true)", "y = if x then pre x else z"):
            self.assertIs(is_normal(read(line, "k = n")), False, line)

    def test_calls(self):
        for line, expected in (("k = count(x)", True), ("k = count(not x) every x and z", True), ("k = count(pre x)", False),
                               ("k = count(true fby false)", False), ("k = count(x) every pre x", False),
                               ("k = count(x) every not (x -> z)", False), ("k = count(x) every true fby false", False)):
            value = read(line, "y = x", before=("node count(up: bool) -> (k: mod 8)", "k = 1:8", "end"))
            self.assertIs(is_normal(value), expected, line)

    def test_every_node_counts(self):
        text = "node a(x: bool) -> (y: bool)\ny = {}\nend\nnode b(x: bool) -> (y: bool)\ny = {}\nend\nmain {}"
        for one, other, main in (("not x", "pre x", "a"), ("pre x", "x", "b")):
            self.assertIs(is_normal(read_program(text.format(one, other, main))), True)
        for one, other, main in (("x -> x", "pre x", "b"), ("x -> x", "x", "a"), ("x", "pre (not x)", "a")):
            self.assertIs(is_normal(read_program(text.format(one, other, main))), False)


class NormalFormTest(unittest.TestCase):
    """[7.2] to [7.4]"""

    def form(self, lines, expected, inner="", new="", before=()):
        value = read(*lines, inner=inner, before=before)
        found = normalized(value)
        var = ", ".join(part for part in (inner, new) if part)
        text = print_program(found).split("\n")
        rows = text[text.index(HEADER) + 1:-2]
        if var:
            self.assertEqual(rows[0], f"var {var}")
            rows = rows[1:]
        self.assertEqual(rows, expected)
        self.assertTrue(is_normal(found) and is_right(found))
        self.assertTrue(same(normalized(found), found))

    def test_the_document_s_example(self):
        value = read_program("node f(x: mod 8) -> (y: mod 8)\ny = (0:8 fby x + y) - (1:8 -> x)\nend\nmain f")
        self.assertEqual(print_program(normalized(value)).split("\n")[1:6], [
            "var t0: mod 8, t1: mod 8, t2: bool", "t0 = x + y", "t1 = pre t0", "t2 = true fby false",
            "y = (if t2 then 0:8 else t1) - (if t2 then 1:8 else x)"])

    def test_equations_that_stay(self):
        lines = ["y = pre x", "k = if x then n else n + 1:8", "m = true fby false", "c = count(not m) every x"]
        self.form(lines, lines, "m: bool, c: mod 8", before=COUNT)

    def test_pre(self):
        self.form(["y = pre (x and z)", "k = n"], ["t0 = x and z", "y = pre t0", "k = n"], new="t0: bool")
        self.form(["y = pre pre x", "k = n"], ["t0 = pre x", "y = pre t0", "k = n"], new="t0: bool")
        self.form(["y = not (pre x)", "k = n"], ["t0 = pre x", "y = not t0", "k = n"], new="t0: bool")
        self.form(["y = pre x xor pre x", "k = n"], ["t0 = pre x", "t1 = pre x", "y = t0 xor t1", "k = n"],
                  new="t0: bool, t1: bool")
        self.form(["y = pre true", "k = n"], ["t0 = true", "y = pre t0", "k = n"], new="t0: bool")
        self.form(["y = x and pre (z or pre (not x))", "k = n"],
                  ["t0 = not x", "t1 = pre t0", "t2 = z or t1", "t3 = pre t2", "y = x and t3", "k = n"],
                  new="t0: bool, t1: bool, t2: bool, t3: bool")
        self.form(["y = x", "k = pre (n + pre (k + 1:8))"],
                  ["y = x", "t0 = k + 1:8", "t1 = pre t0", "t2 = n + t1", "k = pre t2"],
                  new="t0: mod 8, t1: mod 8, t2: mod 8")

    def test_fby(self):
        self.form(["y = z fby x", "k = n"], ["t0 = pre x", "t1 = true fby false", "y = if t1 then z else t0", "k = n"],
                  new="t0: bool, t1: bool")
        self.form(["y = x", "k = 0:8 fby n + 1:8"],
                  ["y = x", "t0 = n + 1:8", "t1 = pre t0", "t2 = true fby false", "k = if t2 then 0:8 else t1"],
                  new="t0: mod 8, t1: mod 8, t2: bool")
        self.form(["y = true fby true", "k = n"],
                  ["t0 = true", "t1 = pre t0", "t2 = true fby false", "y = if t2 then true else t1", "k = n"],
                  new="t0: bool, t1: bool, t2: bool")
        self.form(["y = x and (true fby false)", "k = n"],
                  ["t0 = false", "t1 = pre t0", "t2 = true fby false", "y = x and (if t2 then true else t1)", "k = n"],
                  new="t0: bool, t1: bool, t2: bool")

    def test_parts_come_first(self):
        self.form(["y = x fby z fby x", "k = n"],
                  ["t0 = pre x", "t1 = true fby false", "t2 = if t1 then z else t0", "t3 = pre t2",
                   "y = if t1 then x else t3", "k = n"], new="t0: bool, t1: bool, t2: bool, t3: bool")
        self.form(["y = (x fby z) fby x", "k = n"],
                  ["t0 = pre z", "t1 = true fby false", "t2 = pre x", "y = if t1 then if t1 then x else t0 else t2", "k = n"],
                  new="t0: bool, t1: bool, t2: bool")
        self.form(["y = pre (z -> x)", "k = n"],
                  ["t0 = true fby false", "t1 = if t0 then z else x", "y = pre t1", "k = n"], new="t0: bool, t1: bool")
        self.form(["y = pre (false fby x)", "k = n"],
                  ["t0 = pre x", "t1 = true fby false", "t2 = if t1 then false else t0", "y = pre t2", "k = n"],
                  new="t0: bool, t1: bool, t2: bool")

    def test_arrow(self):
        self.form(["y = x -> z", "k = 1:8 -> pre k + n"],
                  ["t0 = true fby false", "y = if t0 then x else z", "t1 = pre k", "k = if t0 then 1:8 else t1 + n"],
                  new="t0: bool, t1: mod 8")
        self.form(["y = x -> z -> x", "k = n"], ["t0 = true fby false", "y = if t0 then x else if t0 then z else x", "k = n"],
                  new="t0: bool")

    def test_marks_of_clocks(self):
        self.form(["a = true -> z when x", "b = a fby a", "y = x -> merge x (false -> false -> z when not x) (true -> a -> b)",
                   "k = n"],
                  ["t0 = true fby false", "a = if t0 then true else z when x", "t1 = pre a", "b = if t0 then a else t1",
                   "t2 = true fby false", "t3 = true fby false",
                   "y = if t3 then x else merge x (false -> if t2 then false else z when not x) (true -> if t0 then a else b)",
                   "k = n"], "a: bool, b: bool", "t0: bool, t1: bool, t2: bool, t3: bool")

    def test_memories_in_branches(self):
        self.form(["y = merge x (false -> pre (z when not x)) (true -> true fby (z when x))", "k = n"],
                  ["t0 = z when not x", "t1 = pre t0", "t2 = z when x", "t3 = pre t2", "t4 = true fby false",
                   "y = merge x (false -> t1) (true -> if t4 then true else t3)", "k = n"],
                  new="t0: bool, t1: bool, t2: bool, t3: bool, t4: bool")

    def test_calls(self):
        before = ("node g(a: bool, b: mod 8) -> (c: bool, d: mod 8)", "c = a", "d = b", "end")
        self.form(["(y, k) = g(pre (x and z), n fby k) every z -> pre x"],
                  ["t0 = x and z", "t1 = pre t0", "t2 = pre k", "t3 = true fby false", "t4 = pre x",
                   "(y, k) = g(t1, if t3 then n else t2) every if t3 then z else t4"],
                  new="t0: bool, t1: bool, t2: mod 8, t3: bool, t4: bool", before=before)
        self.form(["(y, k) = g(pre x, 1:8)"], ["t0 = pre x", "(y, k) = g(t0, 1:8)"], new="t0: bool", before=before)
        self.form(["(y, k) = g(x, n) every true fby false"],
                  ["t0 = false", "t1 = pre t0", "t2 = true fby false", "(y, k) = g(x, n) every if t2 then true else t1"],
                  new="t0: bool, t1: bool, t2: bool", before=before)

    def test_names_that_are_taken(self):
        self.form(["y = pre x and pre z", "k = n", "t0 = x", "t2 = pre (not x)", "t4 = n"],
                  ["t1 = pre x", "t3 = pre z", "y = t1 and t3", "k = n", "t0 = x", "t5 = not x", "t2 = pre t5", "t4 = n"],
                  "t0: bool, t2: bool, t4: mod 8", "t1: bool, t3: bool, t5: bool")
        value = read_program("node f(t0: bool) -> (t1: bool)\nt1 = t0 -> not t0\nend\nmain f")
        self.assertEqual(print_program(normalized(value)).split("\n")[1:4], [
            "var t2: bool", "t2 = true fby false", "t1 = if t2 then t0 else not t0"])

    def test_marks_that_are_there_already_are_not_used(self):
        self.form(["m = true fby false", "y = if m then x else z", "k = 1:8 -> n"],
                  ["m = true fby false", "y = if m then x else z", "t0 = true fby false", "k = if t0 then 1:8 else n"],
                  "m: bool", "t0: bool")

    def test_every_node(self):
        text = "node a(x: bool) -> (y: bool)\ny = x -> not x\nend\n"
        value = read_program(text + text.replace("node a", "node b") + "main a")
        sorts, nodes, main = normalized(value)
        self.assertEqual([node[0] for node in nodes], ["a", "b"])
        self.assertEqual(nodes[0][1:], nodes[1][1:])
        self.assertEqual((nodes[0][3], main), ((("t0", "bool"),), "a"))

    def test_sorts(self):
        value = read_program("sort E = A | B\nnode f(e: E) -> (d: E)\nd = A fby (if e = A then B else e)\nend\nmain f")
        self.assertEqual(print_program(normalized(value)).split("\n")[2:7], [
            "var t0: E, t1: E, t2: bool", "t0 = if e = A then B else e", "t1 = pre t0", "t2 = true fby false",
            "d = if t2 then A else t1"])


class CellsTest(unittest.TestCase):
    """[7.6]"""

    def count(self, expected, *lines, inner="", before=()):
        value = read(*lines, inner=inner, before=before)
        self.assertEqual(cell_count(value), expected)
        self.assertEqual(cell_count(normalized(value)), expected)
        self.assertEqual(cells_of(normalized(value)), expected)

    def test_one_node(self):
        self.count(0, "y = x", "k = n")
        self.count(1, "y = pre x", "k = n")
        self.count(1, "y = true fby false", "k = n")
        self.count(1, "y = x -> z", "k = n -> 1:8 -> n")
        self.count(2, "y = x fby z", "k = n")
        self.count(3, "y = x fby z", "k = 1:8 fby n")
        self.count(3, "y = pre pre pre x", "k = n")
        self.count(2, "y = true fby false", "k = 1:8 -> n")
        self.count(3, "m = true fby false", "y = m and (true fby false)", "k = n", inner="m: bool")
        self.count(4, "y = merge x (false -> false -> z when not x) (true -> pre (z when x) -> true)", "k = 1:8 -> n")
        self.count(1, "y = merge x (false -> false -> false) (true -> true)", "k = n")

    def test_calls(self):
        self.count(2, "y = x", "k = count(x)", before=COUNT)
        self.count(5, "y = x", "k = count(x) every pre x", "c = count(z)", inner="c: mod 8", before=COUNT)
        before = COUNT + ("node two(a: bool) -> (b: mod 8, c: mod 8)", "b = count(a)", "c = count(pre a) every b = 0:8 -> a",
                          "end")
        self.count(6 + 6 + 2, "y = x", "(k, c) = two(x)", "(d, e) = two(y)", "l = count(x)",
                   inner="c: mod 8, d: mod 8, e: mod 8, l: mod 8", before=before)
        unused = before + ("node more(a: bool) -> (b: bool)", "b = a fby a fby a", "end")
        self.count(2, "y = x", "k = count(x)", before=unused)


def cells_of(program):
    """The number of pre and marks of a program in normal form, with those of the nodes that are called."""
    def cells(name):
        node = [row for row in program[1] if row[0] == name][0]
        found = 0
        for _, right in node[4]:
            found += cells(right[1]) if right[0] == "call" else right[0] in ("pre", "fby")
        return found
    return cells(program[2])


class RandomTest(unittest.TestCase):
    """[7.5], [7.6]"""

    def test_the_normal_form(self):
        for seed in range(250):
            maker = Righting(seed, nil=(0, 0.1, 0.5)[seed % 3], blocks=(0, 0, 0.4)[seed % 3])
            value = translated(maker.program(1 + seed % 3))
            found = normalized(value)
            self.assertIs(is_normal(found), True)
            self.assertTrue(is_right(found))
            self.assertTrue(same(normalized(found), found))
            self.assertEqual(is_normal(value), same(value, found))
            self.assertEqual({cell_count(value), cell_count(found)}, {cells_of(found)})
            self.check_names(value, found)
            rows = maker.rows(value, 6)
            self.assertTrue(same(run(found, rows), run(value, rows)))
            many = [sum(len(row) for row in node[1:4]) for node in value[1] if node[0] == value[2]][0]
            self.assertTrue(same(tuple(row[:many] for row in trace(found, rows)), trace(value, rows)))

    def check_names(self, value, found):
        for node, other in zip(value[1], found[1]):
            self.assertEqual(other[:3], node[:3])
            many = len(node[3])
            self.assertEqual(other[3][:many], node[3])
            old = [x for row in node[1:4] for x, _ in row]
            fresh = [f"t{k}" for k in range(200) if f"t{k}" not in old]
            self.assertEqual([x for x, _ in other[3][many:]], fresh[:len(other[3]) - many])
            defined = [x for names, _ in other[4] for x in names if x not in old]
            self.assertEqual(defined, fresh[:len(defined)])
            clocks = dict(clocks_of(found, node[0]))
            for x, clock in clocks_of(value, node[0]):
                self.assertEqual(clocks[x], clock)
            kinds = kinds_in(other)
            for names, right in other[4]:
                if right[0] != "call":
                    self.assertEqual(kind_of(found, kinds, right), kinds[names[0]])

    def test_it_has_the_form_of_programs(self):
        for seed in range(60):
            found = normalized(Righting(seed, groups=2).program(2))
            if all(sum(len(row) for row in node[1:4]) <= 24 for node in found[1]):
                self.assertTrue(is_program(found))
                self.assertTrue(same(read_program(print_program(found)), found))
