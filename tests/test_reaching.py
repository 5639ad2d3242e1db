"""[5.7], [5.8]: which inputs outputs reach."""

import unittest

from everytick.meaning import beginning, instant
from everytick.program_texts import read_program
from everytick.reaching import reaches
from tests import need_oracle as oracle
from tests.righting import Righting, values
from tests.samples import same


def read(*lines, header, inner="", before=()):
    var = [f"var {inner}"] if inner else []
    return read_program("\n".join([*before, header, *var, *lines, "end", "main f"]))


PAIR = ("node g(a: bool, b: bool, c: bool) -> (p: bool, q: bool, r: bool)", "p = a and b", "q = false fby a",
        "r = c -> pre p", "end")


class ReachingTest(unittest.TestCase):
    header = "node f(x: bool, z: bool) -> (y: bool, w: bool)"

    def test_expressions(self):
        for right, expected in (("true", ()), ("x", ("x",)), ("z and x", ("x", "z")), ("pre x", ()), ("z fby x", ("z",)),
                                ("z -> pre x", ("z",)), ("if x then true else z", ("x", "z")),
                                ("merge x (false -> pre (z when not x)) (true -> true)", ("x",)),
                                ("merge z (false -> x when not z) (true -> true)", ("x", "z"))):
            value = read(f"y = {right}", "w = y", header=self.header)
            self.assertEqual(reaches(value, "f"), (("y", expected), ("w", expected)), right)

    def test_through_other_variables(self):
        value = read("y = a", "a = b or z", "b = pre x", "w = not y fby y", header=self.header, inner="a: bool, b: bool")
        self.assertEqual(reaches(value, "f"), (("y", ("z",)), ("w", ("z",))))

    def test_clocks(self):
        value = read("a = true fby a", "b = merge x (false -> false) (true -> a)", "y = b", "w = pre b",
                     header=self.header, inner="a: bool, b: bool")
        self.assertEqual(reaches(value, "f"), (("y", ("x",)), ("w", ())))

    def test_calls(self):
        inner = "k: bool"
        value = read("(y, w, k) = g(x, true, z)", header=self.header, inner=inner, before=PAIR)
        self.assertEqual(reaches(value, "f"), (("y", ("x",)), ("w", ())))
        self.assertEqual(reaches(value, "g"), (("p", ("a", "b")), ("q", ()), ("r", ("c",))))
        value = read("(k, y, w) = g(x, true, x and z)", header=self.header, inner=inner, before=PAIR)
        self.assertEqual(reaches(value, "f"), (("y", ()), ("w", ("x", "z"))))
        value = read("(k, y, w) = g(x, x, pre x) every z", header=self.header, inner=inner, before=PAIR)
        self.assertEqual(reaches(value, "f"), (("y", ("z",)), ("w", ("z",))))
        value = read("(k, y, w) = g(x, x, true) every false -> pre z", header=self.header, inner=inner, before=PAIR)
        self.assertEqual(reaches(value, "f"), (("y", ()), ("w", ())))

    def test_calls_on_clocks(self):
        value = read("(a, b, c) = g(x when z, true, true)", "y = merge z (false -> true) (true -> b)", "w = x",
                     header=self.header, inner="a: bool, b: bool, c: bool", before=PAIR)
        self.assertEqual(reaches(value, "f"), (("y", ("z",)), ("w", ("x",))))
        value = read("k = a", "(a, b, c) = g(x when z, x when z, true)", "y = merge z (false -> true) (true -> k)", "w = true",
                     header=self.header, inner="a: bool, b: bool, c: bool, k: bool", before=PAIR)
        self.assertEqual(reaches(value, "f"), (("y", ("x", "z")), ("w", ())))

    def test_calls_in_calls(self):
        before = PAIR + ("node h(a: bool, b: bool) -> (p: bool, q: bool)", "var k: bool", "(k, p, q) = g(a, b, b)", "end")
        value = read("(y, w) = h(x, z)", header=self.header, before=before)
        self.assertEqual(reaches(value, "h"), (("p", ()), ("q", ("b",))))
        self.assertEqual(reaches(value, "f"), (("y", ()), ("w", ("z",))))

    def test_names_are_ascending(self):
        value = read("y = v9 and v10 and v1", header="node f(v9: bool, v1: bool, v10: bool) -> (y: bool)")
        self.assertEqual(reaches(value, "f"), (("y", ("v1", "v10", "v9")),))

    def test_a_node_that_main_does_not_need(self):
        value = read("y = x", "w = z", header=self.header, before=PAIR + ("node h(a: bool) -> (b: bool)", "b = a", "end"))
        self.assertEqual(reaches(value, "h"), (("b", ("a",)),))

    def test_random_programs(self):
        for seed in range(200):
            value = Righting(seed).program(3)
            for node in value[1]:
                expected = oracle.reaches(value, node[0])
                self.assertEqual(reaches(value, node[0]), tuple((x, tuple(sorted(expected[x]))) for x, _ in node[2]))

    def test_inputs_that_are_not_reached_do_not_matter(self):
        compared = 0
        for seed in range(150):
            maker = Righting(seed, nil=0.05)
            value = maker.program(1 + seed % 3)
            main = value[1][-1]
            state = beginning(value)
            for row in maker.rows(value, 4):
                told = instant(value, state, row)
                if told is None:
                    break
                for k, (y, inputs) in enumerate(reaches(value, value[2])):
                    other = tuple(v if x in inputs else maker.random.choice(values(kind))
                                  for v, (x, kind) in zip(row, main[1]))
                    found = instant(value, state, other)
                    if found is not None:
                        self.assertTrue(same(found[0][k], told[0][k]), (seed, y))
                        compared += other != row
                state = told[1]
        self.assertGreater(compared, 100)
