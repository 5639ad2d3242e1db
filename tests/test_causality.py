"""[5.1] to [5.3]: needs, rings, and right programs."""

import random
import unittest

from everytick.causality import BadRing, at_once, first_ring, is_causal, is_right, needs, ring_of
from everytick.clocks import clash_of
from everytick.errors import TickError
from everytick.kinds import fits
from everytick.program_texts import read_program
from everytick.reading import read_expression
from everytick.uses import renamed
from tests import need_oracle as oracle
from tests.fitting import Fitting
from tests.righting import Righting


def read(*lines, inner="", header="node f(x: bool, n: mod 3) -> (y: bool)", before=()):
    var = [f"var {inner}"] if inner else []
    program = read_program("\n".join([*before, header, *var, *lines, "end", "main f"]))
    assert fits(program) and clash_of(program) is None, lines
    return program


ON = ("node g(a: bool, b: bool) -> (c: bool, d: bool)", "c = a", "d = false fby b", "end")


class AtOnceTest(unittest.TestCase):
    def test_expressions(self):
        for text, expected in (
                ("true", ""), ("3:8", ""), ("x", "x"), ("not x", "x"), ("x and y", "xy"), ("y or x", "xy"),
                ("b xor a", "ab"), ("b = a", "ab"), ("b <> a", "ab"), ("b < a", "ab"), ("b <= a", "ab"), ("b + a", "ab"),
                ("b - a", "ab"), ("b * a", "ab"), ("if c then b else a", "abc"), ("pre x", ""), ("pre (x -> y)", ""),
                ("x -> y", "xy"), ("x -> pre y", "x"), ("x fby y", "x"), ("x fby y fby z", "x"), ("(x fby y) fby z", "x"),
                ("true fby y", ""), ("x when c", "cx"), ("true when c", "c"), ("x when not c", "cx"),
                ("x when c is A1", "cx"), ("merge c (false -> a) (true -> b)", "abc"),
                ("merge c (false -> pre a) (true -> a fby b)", "ac"), ("merge c (false -> true) (true -> false)", "c"),
                ("not (pre x and (y fby z))", "y"), ("x and x", "x"), ("if pre a then b fby a else pre c", "b")):
            self.assertEqual(at_once(read_expression((), text)), tuple(expected), text)

    def test_names_are_ascending(self):
        self.assertEqual(at_once(read_expression((), "v9 and v10 and v1 and a")), ("a", "v1", "v10", "v9"))

    def test_calls(self):
        x, y, z = [("var", name) for name in "xyz"]
        self.assertEqual(at_once(("call", "g", (), None)), ())
        self.assertEqual(at_once(("call", "g", (y, ("pre", z), ("fby", x, z)), None)), ("x", "y"))
        self.assertEqual(at_once(("call", "g", (y,), ("not", x))), ("x", "y"))
        self.assertEqual(at_once(("call", "g", (), ("pre", x))), ())
        self.assertEqual(at_once(("call", "a", (y,), ("arrow", x, ("pre", y)))), ("x", "y"))

    def test_random_trees(self):
        for seed in range(60):
            for node in Righting(seed).program(3)[1]:
                for _, right in node[4]:
                    self.assertEqual(at_once(right), tuple(sorted(oracle.at_once(right))))


class NeedsTest(unittest.TestCase):
    def test_the_document_s_example(self):
        value = read_program("node f(x: bool) -> (y: bool)\nvar a: bool, b: bool\na = b and x\nb = a or y\n"
                             "y = false fby a\nend\nmain f")
        self.assertEqual(needs(value, "f"), (("y", ()), ("a", ("b", "x")), ("b", ("a", "y"))))
        self.assertEqual(first_ring(value, "f"), ("a", "b"))

    def test_outputs_come_before_locals_in_the_order_of_the_node(self):
        value = read("c = x", "b = c", "z = b", "y = z", inner="b: bool, c: bool",
                     header="node f(x: bool) -> (z: bool, y: bool)")
        self.assertEqual(needs(value, "f"), (("z", ("b",)), ("y", ("z",)), ("b", ("c",)), ("c", ("x",))))

    def test_clocks_are_needed(self):
        value = read("a = true when x", "b = pre a", "c = 1:3 fby k", "k = n when x when b", "y = x",
                     inner="a: bool, b: bool, c: mod 3, k: mod 3")
        self.assertEqual(needs(value, "f"), (
            ("y", ("x",)), ("a", ("x",)), ("b", ("x",)), ("c", ("b", "x")), ("k", ("b", "n", "x"))))

    def test_all_variables_of_a_call_need_the_same(self):
        value = read("(a, b) = g(x, true -> y) every pre y or b2", "y = pre a", "b2 = x", inner="a: bool, b: bool, b2: bool",
                     before=ON)
        self.assertEqual(needs(value, "f"), (
            ("y", ()), ("a", ("b2", "x", "y")), ("b", ("b2", "x", "y")), ("b2", ("x",))))

    def test_calls_need_their_arguments_whatever_the_node_does(self):
        value = read("(y, a) = g(x, a)", inner="a: bool", before=ON)
        self.assertEqual(needs(value, "f"), (("y", ("a", "x")), ("a", ("a", "x"))))
        self.assertEqual(first_ring(value, "f"), ("a",))

    def test_any_node(self):
        value = read("y = x", before=ON)
        self.assertEqual(needs(value, "g"), (("c", ("a",)), ("d", ())))

    def test_random_programs(self):
        for seed in range(120):
            value = (Fitting if seed % 2 else Righting)(seed).program(2)
            if clash_of(value) is None:
                for node in value[1]:
                    expected = oracle.needs(node)
                    names = [x for row in node[2:4] for x, _ in row]
                    self.assertEqual(needs(value, node[0]), tuple((x, tuple(sorted(expected[x]))) for x in names))


class RingsTest(unittest.TestCase):
    def ring(self, value, ring, node="f"):
        self.assertEqual(first_ring(value, node), ring)
        if ring is not None:
            self.assertEqual(ring_of(value), (node, ring))
        self.assertIs(is_causal(value), ring is None)
        self.assertIs(is_right(value), ring is None)

    def test_rings_of_one(self):
        self.ring(read("y = x and y"), ("y",))
        self.ring(read("y = y -> x"), ("y",))
        self.ring(read("y = x -> y"), ("y",))
        self.ring(read("y = y fby x"), ("y",))
        self.ring(read("y = if x then x else y"), ("y",))
        self.ring(read("y = merge y (false -> true) (true -> false)"), ("y",))
        self.ring(read("y = merge x (false -> y when not x) (true -> true)"), ("y",))

    def test_what_parts_a_ring(self):
        self.ring(read("y = pre y"), None)
        self.ring(read("y = x fby y"), None)
        self.ring(read("y = x -> pre y"), None)
        self.ring(read("y = x fby not (y -> y)"), None)
        self.ring(read("y = merge x (false -> pre (y when not x)) (true -> true fby (y when x))"), None)
        self.ring(read("a = b", "b = c", "c = pre a", "y = a", inner="a: bool, b: bool, c: bool"), None)

    def test_rings_of_several(self):
        inner = "a: bool, b: bool, c: bool, d: bool"
        self.ring(read("a = b", "b = c", "c = d", "d = a", "y = x", inner=inner), ("a", "b", "c", "d"))
        self.ring(read("a = d", "d = b", "b = c", "c = a", "y = x", inner=inner), ("a", "d", "b", "c"))
        self.ring(read("c = d", "d = c", "a = b", "b = a", "y = x", inner=inner), ("a", "b"))
        self.ring(read("a = b", "b = c", "c = a", "d = y", "y = d", inner=inner), ("d", "y"))
        self.ring(read("a = b and c", "b = d", "c = d", "d = a", "y = x", inner=inner), ("a", "b", "d"))
        self.ring(read("a = b", "b = a and c", "c = b and d", "d = c", "y = x", inner=inner), ("a", "b"))
        self.ring(read("a = b", "b = c", "c = d", "d = a and d", "y = x", inner=inner), ("d",))
        self.ring(read("a = x", "b = a and d", "c = b", "d = c", "y = a", inner=inner), ("b", "d", "c"))

    def test_ascending_is_by_the_texts(self):
        self.ring(read("v9 = v9", "v10 = v10", "y = x", inner="v9: bool, v10: bool"), ("v10",))
        self.ring(read("v2 = v9 and v10", "v9 = v2", "v10 = v2", "y = x", inner="v2: bool, v9: bool, v10: bool"),
                  ("v10", "v2"))

    def test_rings_through_clocks(self):
        self.ring(read("a = x when b", "b = merge b (false -> true) (true -> a)", "y = x", inner="a: bool, b: bool"), ("b",))
        self.ring(read("a = true -> pre a", "k = merge a (false -> p) (true -> true)", "p = pre p", "a2 = k", "y = x",
                       inner="a: bool, k: bool, p: bool, a2: bool"), None)
        value = read("p = pre p", "q = p", "c = merge x (false -> q) (true -> r)", "r = x when x", "y = c",
                     inner="p: bool, q: bool, c: bool, r: bool")
        self.ring(value, None)
        value = read("s = merge t (false -> true) (true -> u)", "u = pre u", "t = x -> s", "y = x",
                     inner="s: bool, t: bool, u: bool")
        self.ring(value, ("s", "t"))
        value = read("t = merge s (false -> true) (true -> u)", "u = pre u", "s = x -> w", "w = merge x (false -> v) (true -> v2)",
                     "v = t when not x", "v2 = true", "y = x", inner="s: bool, t: bool, u: bool, v: bool, w: bool, v2: bool")
        self.ring(value, ("s", "w", "v", "t"))

    def test_a_variable_needs_its_clock_alone(self):
        value = read("c = x and d", "d = false -> pre e", "e = merge c (false -> true) (true -> k)", "k = true fby k", "y = x",
                     inner="c: bool, d: bool, e: bool, k: bool")
        self.assertEqual(dict(needs(value, "f"))["k"], ("c",))
        self.ring(value, None)
        value = read("c = x and d", "d = merge c (false -> true) (true -> k)", "k = true fby k", "y = x",
                     inner="c: bool, d: bool, k: bool")
        self.ring(value, ("c", "d"))

    def test_rings_through_calls(self):
        self.ring(read("(y, a) = g(a, x)", inner="a: bool", before=ON), ("a",))
        self.ring(read("(y, a) = g(x, x) every y", inner="a: bool", before=ON), ("y",))
        self.ring(read("(y, a) = g(x, x) every pre y", inner="a: bool", before=ON), None)
        self.ring(read("(y, a) = g(pre a, x fby y)", inner="a: bool", before=ON), None)
        self.ring(read("(y, a) = g(x, b)", "b = not a", inner="a: bool, b: bool", before=ON), ("a", "b"))

    def test_the_first_node_with_a_ring(self):
        good = "node a(x: bool) -> (y: bool)\ny = pre y\nend\n"
        one = "node b(x: bool) -> (y: bool)\nvar z: bool\ny = z\nz = y\nend\n"
        other = "node c(x: bool) -> (y: bool)\ny = y\nend\n"
        self.assertEqual(ring_of(read_program(good + one + other + "main a")), ("b", ("y", "z")))
        self.assertEqual(ring_of(read_program(other + good + one + "main a")), ("c", ("y",)))
        self.assertIsNone(ring_of(read_program(good + "main a")))
        value = read_program(good + one + other + "main c")
        self.assertEqual([first_ring(value, name) for name in "abc"], [None, ("y", "z"), ("y",)])

    def test_random_programs(self):
        for seed in range(200):
            value = Fitting(seed).program(1 + seed % 3)
            if clash_of(value) is None:
                self.check(value)

    def test_random_needs(self):
        counts = {}
        for seed in range(400):
            chooser = random.Random(seed)
            names = [f"v{k}" for k in chooser.sample(range(20), chooser.randint(2, 6))]
            right = {x: [y for y in names if y != x and chooser.random() < 0.25] for x in names}
            lines = [" and ".join([f"{x} = true"] + right[x]) for x in names]
            value = read(*lines, "y = pre " + names[0], inner=", ".join(f"{x}: bool" for x in names))
            for ring in self.check(value):
                counts[ring and len(ring)] = counts.get(ring and len(ring), 0) + 1
        self.assertGreater(min(counts.get(k, 0) for k in (None, 2, 3)), 5, counts)

    def check(self, value):
        rings = [(node[0], oracle.first_ring(node)) for node in value[1]]
        for name, ring in rings:
            self.assertEqual(first_ring(value, name), ring)
        found = [pair for pair in rings if pair[1] is not None]
        self.assertEqual(ring_of(value), found[0] if found else None)
        self.assertIs(is_causal(value), not found)
        return [ring for _, ring in rings]

    def test_other_names_give_other_first_rings(self):
        value = read("a = b", "b = a", "c = d", "d = c", "y = x", inner="a: bool, b: bool, c: bool, d: bool")
        self.assertEqual(first_ring(value, "f"), ("a", "b"))
        self.assertEqual(first_ring(renamed(value, {"a": "z"}), "f"), ("b", "z"))
        self.assertEqual(first_ring(renamed(value, {"a": "z", "b": "w"}), "f"), ("c", "d"))

    def test_the_error(self):
        self.assertTrue(issubclass(BadRing, TickError))
        error = BadRing("f", ("a", "b"))
        self.assertEqual((error.node, error.ring), ("f", ("a", "b")))

    def test_many_variables(self):
        names = [f"v{k:02}" for k in range(23)]
        lines = [f"{x} = {y}" for x, y in zip(names, names[1:])]
        inner = ", ".join(f"{x}: bool" for x in names)
        header = "node f() -> (y: bool)"
        self.ring(read(*lines, "v22 = y", "y = v00", inner=inner, header=header), (*names, "y"))
        self.ring(read(*lines, "v22 = pre y", "y = v00", inner=inner, header=header), None)
        self.ring(read(*lines, "v22 = v11", "y = v00", inner=inner, header=header), tuple(names[11:]))


class RightTest(unittest.TestCase):
    def test_wrong_programs(self):
        for text in ("node f(x: bool) -> (y: bool)\ny = z\nend\nmain f", "node f(x: bool) -> (y: bool)\ny = x\nend\nmain g",
                     "node f(x: bool) -> (y: bool)\ny = x when x\nend\nmain f",
                     "node f(x: bool) -> (y: bool)\ny = y\nend\nmain f", "node f(x: bool) -> (y: mod 2)\ny = x\nend\nmain f",
                     "node g(x: bool) -> (y: bool)\ny = y\nend\nnode f(x: bool) -> (y: bool)\ny = x\nend\nmain f",
                     "node f(x: bool) -> (y: bool)\nstates\nstate A\ny = x\nstate B\ny = x\nend\nend\nmain f",
                     "node g(x: bool) -> (y: bool)\nstates\nstate A\ny = x\nstate B\ny = x\nend\nend\n"
                     "node f(x: bool) -> (y: bool)\ny = x\nend\nmain f"):
            self.assertIs(is_right(read_program(text)), False, text)
        self.assertIs(is_right(read_program("node f(x: bool) -> (y: bool)\ny = x\nend\nmain f")), True)

    def test_random_programs(self):
        for seed in range(60):
            self.assertIs(is_right(Righting(seed).program(3)), True)
