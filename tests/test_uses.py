"""[2.5]: uses, needed nodes, and other names for variables."""

import unittest

from everytick.errors import NotAllowed
from everytick.kinds import fits
from everytick.program_texts import read_program
from everytick.printing import print_program
from everytick.uses import equations_of, needed, renamed, uses, without_unused
from tests.samples import X, block, node, number, one_node, program, same, state


def calling(name, *callees):
    """A node that calls others, which have one input and one output of kind bool."""
    inner = [(f"v{k}", "bool") for k in range(len(callees))]
    body = [((f"v{k}",), ("call", callee, (X,), None)) for k, callee in enumerate(callees)]
    return node([(("y",), X)] + body, inner=inner, name=name)


class UsesTest(unittest.TestCase):
    def test_equations(self):
        one, other, third, fourth = [((x,), X) for x in "abcd"]
        value = node([one, block(state("A", [other, third]), state("B"), state("C", [fourth])), one])
        self.assertEqual(equations_of(value), [one, other, third, fourth, one])
        self.assertEqual(equations_of(node([one])), [one])
        self.assertEqual(equations_of(node([block(state("A"), state("B"))])), [])
        equations_of(value).append(one)
        self.assertEqual(len(equations_of(value)), 5)

    def test_uses(self):
        self.assertEqual(uses(calling("f")), [])
        self.assertEqual(uses(calling("f", "h", "b10", "b2", "h")), ["b10", "b2", "h"])
        right = ("call", "z", (), None)
        value = node([block(state("A", [(("y",), right)]), state("B", [(("y",), ("call", "a", (X,), X))]))])
        self.assertEqual(uses(value), ["a", "z"])
        uses(value).append("q")
        self.assertEqual(uses(value), ["a", "z"])

    def test_needed(self):
        nodes = [calling("a"), calling("b", "a"), calling("c"), calling("d", "b", "c"), calling("e", "d", "a"),
                 calling("f", "b")]
        for main, names in (("a", "a"), ("b", "ab"), ("c", "c"), ("d", "abcd"), ("e", "abcde"), ("f", "abf")):
            value = program(*nodes, main=main)
            self.assertTrue(fits(value))
            self.assertEqual(needed(value), list(names))
            left = without_unused(value)
            self.assertEqual(left, program(*[row for row in nodes if row[0] in names], main=main))
            self.assertTrue(fits(left))
            self.assertEqual(without_unused(left), left)

    def test_sorts_stay(self):
        sorts = (("E", ("A", "B")),)
        value = program(calling("a"), calling("b"), sorts=sorts, main="a")
        self.assertEqual(without_unused(value), (sorts, (calling("a"),), "a"))

    def test_calls_in_states_count(self):
        right = ("call", "a", (X,), None)
        value = program(calling("a"), node([block(state("A", [(("y",), right)]), state("B", [(("y",), X)]))]))
        self.assertEqual(needed(value), ["a", "f"])


TEXT = """sort E = Red | Blue
node g(x: bool) -> (y: bool)
y = x
end
node f(x: bool, c: E) -> (y: bool)
var m: bool, n: mod 8
m = merge c (Red -> x when c is Red) (Blue -> pre (y when c is Blue))
n = if x then 0:8 fby n + 1:8 else 3:8
states
state A
unless x or m then B
y = g(x) every m
until n = 3:8 continue A
state B
y = not y -> x
end
end
main f"""


class RenamedTest(unittest.TestCase):
    def setUp(self):
        self.program = read_program(TEXT)

    def text(self, names):
        before = dict(names)
        value = renamed(self.program, names)
        self.assertEqual(names, before)
        self.assertEqual(self.program, read_program(TEXT))
        return print_program(value)

    def test_every_variable(self):
        self.assertEqual(self.text({"x": "a", "c": "b", "y": "e", "m": "d", "n": "g"}), """sort E = Red | Blue
node g(x: bool) -> (y: bool)
y = x
end
node f(a: bool, b: E) -> (e: bool)
var d: bool, g: mod 8
d = merge b (Red -> a when b is Red) (Blue -> pre (e when b is Blue))
g = if a then 0:8 fby g + 1:8 else 3:8
states
state A
unless a or d then B
e = g(a) every d
until g = 3:8 continue A
state B
e = not e -> a
end
end
main f""")

    def test_variables_that_are_no_keys_stay(self):
        self.assertEqual(self.text({}), TEXT)
        self.assertEqual(self.text({"n": "k"}), TEXT.replace("n: mod", "k: mod").replace("n = if", "k = if").replace(
            "fby n +", "fby k +").replace("until n", "until k"))

    def test_names_may_be_exchanged(self):
        swapped = renamed(self.program, {"x": "y", "y": "x"})
        self.assertEqual([x for x, _ in swapped[1][1][1] + swapped[1][1][2]], ["y", "c", "x"])
        self.assertEqual(renamed(swapped, {"x": "y", "y": "x"}), self.program)
        turned = renamed(self.program, {"x": "c", "c": "y", "y": "m", "m": "n", "n": "x"})
        self.assertEqual(renamed(turned, {"c": "x", "y": "c", "m": "y", "n": "m", "x": "n"}), self.program)
        self.assertEqual(renamed(self.program, {"x": "x"}), self.program)

    def test_other_nodes_stay(self):
        value = renamed(self.program, {"x": "a", "y": "b"})
        self.assertEqual(value[1][0], self.program[1][0])
        self.assertEqual((value[0], value[2]), (self.program[0], "f"))

    def test_keys_that_are_no_variables(self):
        self.assertEqual(self.text({"zz": "a", "g": "b", "f": "x", "Red": "x", "A": "c", "w": "x"}), TEXT)
        self.assertEqual(self.text({"zz": "Nope", "w": ""}), TEXT)

    def test_doubled_names(self):
        for names in ({"x": "a", "c": "a"}, {"x": "c"}, {"n": "y"}, {"m": "n"}, {"x": "m", "m": "x", "y": "x"}):
            with self.assertRaises(NotAllowed):
                renamed(self.program, names)

    def test_names_that_are_none(self):
        for name in ("", "X", "longnames", "if", "main", "a b", "1a", "a_"):
            for x in ("x", "y", "n"):
                with self.assertRaises(NotAllowed):
                    renamed(self.program, {x: name})

    def test_calls_of_several_variables(self):
        g = node([(("a",), X), (("b",), X)], outputs=[("a", "bool"), ("b", "bool")], name="g")
        f = node([(("y", "z"), ("call", "g", (("not", X),), None))], inner=[("z", "bool")])
        h = node([(("q", "z"), ("call", "g", (("not", X),), None))], outputs=[("q", "bool")], inner=[("z", "bool")])
        self.assertTrue(same(renamed(program(g, f), {"y": "q"}), program(g, h)))

    def test_true_stays_true(self):
        value = one_node((("y",), ("when", ("const", True, "bool"), "x", True)),
                         (("z",), ("merge", "n", ((0, number(0, 2)), (1, number(1, 2))))),
                         inner=[("z", ("mod", 2)), ("n", ("mod", 2))])
        again = renamed(renamed(value, {"x": "w"}), {"w": "x"})
        self.assertTrue(same(again, value))
