"""[3.1] and [3.4] to [3.9]: clocks, and chains that are clashes."""

import random
import unittest

from everytick.clocks import BadClock, clash_of, clocks_of, place_clocks
from everytick.errors import TickError
from everytick.kinds import fits
from everytick.places import places_of
from everytick.program_texts import read_program
from everytick.uses import renamed
from tests.clock_oracle import all_links, clash_cases, is_clocking, least_clocking
from tests.fitting import Fitting


def read(*lines, header="node f(x: bool, c: bool, d: bool, n: mod 3) -> (y: bool)", inner=""):
    var = [f"var {inner}"] if inner else []
    value = read_program("\n".join([header, *var, *lines, "end", "main f"]))
    assert fits(value), lines
    return value


class ClocksTest(unittest.TestCase):
    def clocks(self, value, **expected):
        found = dict(clocks_of(value, "f"))
        for x in found:
            self.assertEqual(found[x], expected.get(x, ()), x)
        self.assertIsNone(clash_of(value))
        self.check(value, "f")

    def check(self, value, name):
        """That a node's clocks are the least clocking, or its clash is one; returns the cases of the clash."""
        node = [row for row in value[1] if row[0] == name][0]
        least = least_clocking(node)
        if least is None:
            for function in (place_clocks, clocks_of):
                with self.assertRaises(BadClock) as caught:
                    function(value, name)
                self.assertEqual(caught.exception.node, name)
                cases = clash_cases(node, caught.exception.chain)
                self.assertTrue(cases, caught.exception.chain)
                self.assertLessEqual(len(caught.exception.chain), 4 * len(places_of(value, name)))
            return cases
        found = place_clocks(value, name)
        self.assertEqual(found, least)
        self.assertEqual(tuple(found), places_of(value, name))
        self.assertTrue(is_clocking(node, found))
        variables = [x for row in node[1:4] for x, _ in row]
        self.assertEqual(clocks_of(value, name), tuple((x, found[x]) for x in variables))
        return None

    def clash(self, value, *cases):
        found = self.check(value, "f")
        self.assertIsNotNone(found)
        for case in cases:
            self.assertIn(case, found)
        self.assertEqual(clash_of(value)[0], "f")
        self.assertTrue(clash_cases(value[1][-1], clash_of(value)[1]))


class LeastClockingTest(ClocksTest):
    def test_the_document_s_examples(self):
        text = ("node half(c: bool, x: bool) -> (y: bool)\nvar a: bool, b: bool\na = x when c\nb = a or true\n"
                "y = merge c (false -> false) (true -> b)\nend\nmain half")
        self.assertEqual(clocks_of(read_program(text), "half"), (
            ("c", ()), ("x", ()), ("y", ()), ("a", (("c", True),)), ("b", (("c", True),))))
        bad = read_program("node bad(c: bool, x: bool) -> (y: bool)\ny = x when c\nend\nmain bad")
        self.assertEqual(clash_of(bad), ("bad", ("y", (0, ()), (0, (0,)))))

    def test_the_base_clock(self):
        self.clocks(read("y = x and pre y or (c fby d) -> not x"))
        self.clocks(read("y = true"))
        self.clocks(read("a = x", "y = a", inner="a: bool"))

    def test_one_pair(self):
        self.clocks(read("a = x when c", "b = a -> pre a", "y = merge c (false -> x when not c) (true -> b)",
                         inner="a: bool, b: bool"), a=(("c", True),), b=(("c", True),))
        self.clocks(read("a = x when not c", "y = x", inner="a: bool"), a=(("c", False),))
        self.clocks(read("a = x when n is 2", "y = merge n (0 -> true) (1 -> x when n is 1) (2 -> a)",
                         inner="a: bool"), a=(("n", 2),))

    def test_several_pairs(self):
        two = (("c", True), ("e", 1))
        value = read("e = n when c", "a = (x when c) when e is 1", "b = d when c when e is 0", "k = not a when a",
                     "y = merge c (false -> d when not c) (true -> merge e (0 -> b) (1 -> a) (2 -> true))",
                     inner="e: mod 3, a: bool, b: bool, k: bool")
        self.clocks(value, e=(("c", True),), a=two, b=(("c", True), ("e", 0)), k=two + (("a", True),))
        places = place_clocks(value, "f")
        self.assertEqual(places[(1, ())], two)
        self.assertEqual(places[(1, (0,))], two[:1])
        self.assertEqual(places[(1, (0, 0))], ())
        self.assertEqual(places[(4, (1, 2))], (("c", True), ("e", 2)))
        self.assertEqual(places["a"], two)

    def test_clocks_of_the_pairs_are_the_ones_before(self):
        value = read("e = n when c", "a = (x when c) when e is 1", "k = a when a", "y = x",
                     inner="e: mod 3, a: bool, k: bool")
        clocks = dict(clocks_of(value, "f"))
        for clock in place_clocks(value, "f").values():
            for k, (x, _) in enumerate(clock):
                self.assertEqual(clocks[x], clock[:k])

    def test_constants_are_on_any_clock(self):
        value = read("a = true when c", "b = true and a", "y = merge c (false -> true) (true -> b or false)",
                     "k = 1:3", inner="a: bool, b: bool, k: mod 3")
        self.clocks(value, a=(("c", True),), b=(("c", True),))
        places = place_clocks(value, "f")
        self.assertEqual(places[(1, (0,))], (("c", True),))
        self.assertEqual(places[(2, (0,))], (("c", False),))
        self.assertEqual(places[(2, (1, 1))], (("c", True),))
        self.assertEqual(places[(3, ())], ())

    def test_parts_that_hang_on_no_input(self):
        value = read("k = false -> not pre k", "a = true when k", "b = a and true when k", "y = x",
                     inner="k: bool, a: bool, b: bool")
        self.clocks(value, a=(("k", True),), b=(("k", True),))
        value = read("a = a when b", "b = pre b", "y = x", inner="a: bool, b: bool")
        self.assertIsNotNone(clash_of(value))
        value = read("a = b when b", "b = c when a", "y = x", inner="a: bool, b: bool")
        self.assertIsNotNone(clash_of(value))
        value = read("a = p when p", "b = q when q", "p = true -> p", "q = merge p (false -> true) (true -> a)", "y = x",
                     inner="a: bool, b: bool, p: bool, q: bool")
        self.clocks(value, a=(("p", True),), b=(("q", True),))

    def test_memories_are_on_the_clock_of_their_parts(self):
        value = read("a = pre b", "b = a fby (a -> x when n is 1)", "y = x", inner="a: bool, b: bool")
        self.clocks(value, a=(("n", 1),), b=(("n", 1),))

    def test_calls(self):
        text = ("node g(p: bool, q: mod 3) -> (r: bool, s: mod 3)\nvar t: bool\nt = p when p\nr = p\ns = q\nend\n"
                "node f(x: bool, c: bool, n: mod 3) -> (y: bool)\nvar a: bool, b: mod 3, k: bool\n"
                "(a, b) = g(true, 1:3) every x when c\nk = a\ny = merge c (false -> false) (true -> k)\nend\nmain f")
        value = read_program(text)
        on = (("c", True),)
        self.clocks(value, a=on, b=on, k=on)
        places = place_clocks(value, "f")
        for place in ((0, ()), (0, (0,)), (0, (1,)), (0, (2,))):
            self.assertEqual(places[place], on)
        self.assertEqual(places[(0, (2, 0))], ())
        self.check(value, "g")
        self.assertEqual(dict(clocks_of(value, "g"))["t"], (("p", True),))
        self.clash(read_program(text.replace("g(true, 1:3)", "g(x, 1:3)")))
        self.clash(read_program(text.replace("g(true, 1:3)", "g(true, n)")))
        self.clash(read_program(text.replace("every x when c", "every c").replace("k = a", "k = x when c and a")))

    def test_every_node_counts(self):
        good = "node g(p: bool) -> (r: bool)\nr = p\nend\n"
        bad = "node h(p: bool) -> (r: bool)\nr = p when p\nend\n"
        other = "node k(p: bool) -> (r: bool)\nr = p when not p\nend\n"
        self.assertIsNone(clash_of(read_program(good + "main g")))
        self.assertEqual(clash_of(read_program(good + bad + "main g"))[0], "h")
        self.assertEqual(clash_of(read_program(good + bad + other + "main k"))[0], "h")
        self.assertEqual(clash_of(read_program(other + good + bad + "main g"))[0], "k")
        self.assertEqual(clocks_of(read_program(bad + good + "main h"), "g"), (("p", ()), ("r", ())))


class ClashesTest(ClocksTest):
    def test_the_error(self):
        self.assertTrue(issubclass(BadClock, TickError))
        error = BadClock("f", ("x", (0, ())))
        self.assertEqual((error.node, error.chain), ("f", ("x", (0, ()))))

    def test_another_pair_is_taken_away(self):
        self.clash(read("a = x when c", "b = x when d", "k = a and b", "y = x", inner="a: bool, b: bool, k: bool"), 1)
        self.clash(read("a = x when c", "b = x when not c", "k = a = b", "y = x", inner="a: bool, b: bool, k: bool"), 1)
        self.clash(read("y = merge c (false -> x when c) (true -> x when not c)"), 1)
        self.clash(read("y = merge n (0 -> x when n is 0) (1 -> x when n is 2) (2 -> true)"), 1)
        self.clash(read("a = x when c when b", "b = d when c", "k = x when c when e",
                        "e = d when c", "m = a or k", "y = x", inner="a: bool, b: bool, k: bool, e: bool, m: bool"), 1)

    def test_a_pair_deep_below_differs(self):
        value = read("a = x when c", "b = x when d", "p = a when a", "q = b when b", "k = p = q", "y = x",
                     inner="a: bool, b: bool, p: bool, q: bool, k: bool")
        self.clash(value, 1)
        value = read("e = merge c (false -> g) (true -> g)", "g = true when c", "y = x", inner="e: bool, g: bool")
        self.clash(value, 1)

    def test_above_an_input_or_output(self):
        self.clash(read("y = x when c"), 2)
        self.clash(read("y = true when c"), 2)
        self.clash(read("a = merge b (false -> x) (true -> true)", "b = true -> b", "y = c",
                        inner="a: bool, b: bool"), 2)
        self.clash(read("y = (x when c) or (x when c)"), 2)

    def test_a_ring_with_another_height(self):
        self.clash(read("y = x", "a = a when b", "b = true -> b", inner="a: bool, b: bool"), 3)
        self.clash(read("y = x", "a = b when k", "b = a when k", "k = pre k", inner="a: bool, b: bool, k: bool"), 3)
        self.clash(read("y = x", "a = true when a", inner="a: bool"), 3)
        self.clash(read("y = x", "a = merge a (false -> a) (true -> true)", inner="a: bool"), 3)

    def test_nothing_but_the_first_case(self):
        value = read("y = x", "e = pre e", "g = pre g", "a = true when e", "b = true when g", "k = a or b",
                     inner="e: bool, g: bool, a: bool, b: bool, k: bool")
        self.assertEqual(self.check(value, "f"), [1])

    def test_nothing_but_the_third_case(self):
        value = read("y = x", "a = true when a", inner="a: bool")
        self.assertEqual(self.check(value, "f"), [3])

    def test_nothing_but_the_second_case(self):
        self.assertEqual(self.check(read("y = x when c"), "f"), [2])

    def test_not_clocked_in_one_place(self):
        for line in ("a = x and b", "a = if x then b else b", "a = if b then b else x", "a = b -> x", "a = b fby x",
                     "a = b when x", "a = merge b (false -> true) (true -> x)", "a = pre b and x", "a = (not b) = x",
                     "a = merge x (false -> b) (true -> true)", "a = merge x (false -> true) (true -> x)"):
            self.clash(read("b = x when c", line, "y = x", inner="a: bool, b: bool"))
        self.clash(read("b = x when c", "a = n + (1:3 when b)", "y = x", inner="a: mod 3, b: bool"))


class RandomTest(ClocksTest):
    def test_random_programs(self):
        counts = {None: 0, 1: 0, 2: 0, 3: 0}
        for seed in range(900):
            maker = Fitting(seed, loose=(0.0, 0.05, 0.3)[seed % 3])
            value = maker.program(1 + seed % 3)
            self.assertTrue(fits(value))
            for node in value[1]:
                cases = self.check(value, node[0])
                for case in cases or [None]:
                    counts[case] += 1
            self.check_clash_of(value)
        self.assertGreater(min(counts.values()), 20, counts)

    def check_clash_of(self, value):
        bad = [node for node in value[1] if least_clocking(node) is None]
        if not bad:
            self.assertIsNone(clash_of(value))
        else:
            name, chain = clash_of(value)
            self.assertEqual(name, bad[0][0])
            self.assertTrue(clash_cases(bad[0], chain))

    def test_every_clocking_ends_with_the_least_one(self):
        for seed in range(60):
            value = Fitting(seed).program()
            node = value[1][0]
            least = least_clocking(node)
            if least is None:
                continue
            links = all_links(node)
            for x in least:
                part = {x}
                while True:
                    more = {other for one, other in links if one in part} - part
                    if not more:
                        break
                    part |= more
                if not any(y in part for row in node[1:3] for y, _ in row):
                    clocks = {place: (("x0", 0),) * (place in part) + clock for place, clock in least.items()}
                    self.assertTrue(is_clocking(node, clocks))
                    found = place_clocks(value, node[0])
                    self.assertTrue(all(clocks[place][-len(found[place]):] == found[place] or found[place] == ()
                                        for place in clocks))

    def test_the_order_of_equations_does_not_matter(self):
        for seed in range(200):
            value = Fitting(seed, loose=0.1 * (seed % 2)).program()
            sorts, (node,), main = value
            chooser = random.Random(seed)
            body = tuple(chooser.sample(node[4], len(node[4])))
            other = (sorts, (("other",) + node[1:4] + (body,),), "other")
            if least_clocking(node) is None:
                self.assertIsNotNone(clash_of(other))
                self.check(other, "other")
            else:
                self.assertEqual(clocks_of(other, "other"), clocks_of(value, main))

    def test_other_names_of_variables(self):
        for seed in range(200):
            value = Fitting(seed, loose=0.1 * (seed % 2)).program()
            node = value[1][0]
            names = [x for row in node[1:4] for x, _ in row]
            fresh = dict(zip(names, [f"q{k}" for k in range(len(names), 0, -1)]))
            other = renamed(value, fresh)
            if least_clocking(node) is None:
                self.assertIsNotNone(clash_of(other))
                self.check(other, other[2])
            else:
                expected = tuple((fresh[x], tuple((fresh[y], v) for y, v in clock))
                                 for x, clock in clocks_of(value, value[2]))
                self.assertEqual(clocks_of(other, other[2]), expected)

    def test_many_places(self):
        lines = ["a0 = x when c"] + [f"a{k} = (a{k - 1} and true) when a{k - 1}" for k in range(1, 20)]
        inner = ", ".join(f"a{k}: bool" for k in range(20))
        value = read(*lines, "y = x", header="node f(x: bool, c: bool) -> (y: bool)", inner=inner)
        self.assertEqual(len(dict(clocks_of(value, "f"))["a19"]), 20)
        self.check(value, "f")
        self.clash(read(*lines, "y = a19", header="node f(x: bool, c: bool) -> (y: bool)", inner=inner), 2)
