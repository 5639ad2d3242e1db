"""[8.6], [8.9], [8.10]: machines of programs, finished machines, and that both give what the programs give."""

import unittest

from everytick.causality import is_right
from everytick.joining import dropped, joined
from everytick.making import finished, made
from everytick.meaning import run
from everytick.normal import cell_count, is_normal, normalized
from everytick.program_texts import read_program
from everytick.states import translated
from everytick.steps import is_step_machine, run_steps, size_of
from tests import making_oracle as oracle
from tests.righting import Righting
from tests.samples import same

T, F = True, False


def var(x):
    return ("var", x)


def const(value):
    return ("const", value)


def normal(*lines):
    """The program of a text, which is right and in normal form."""
    value = read_program("\n".join(lines))
    assert is_right(value) and is_normal(value)
    return value


class MadeTest(unittest.TestCase):
    """[8.6]"""

    def made(self, *lines):
        machine = made(normal(*lines))
        self.assertTrue(is_step_machine(machine))
        return machine

    def body(self, *lines):
        return self.made(*lines)[-1][5]

    def equal(self, one, other):
        self.assertEqual(repr(one), repr(other))

    def test_expressions(self):
        machine = self.made("node f(x: bool, n: mod 8) -> (y: mod 8, z: bool)",
                            "y = if x then n + 3:8 else n * (n - 1:8)", "z = n <= 2:8 xor not x", "end", "main f")
        self.equal(machine, (("f", ("x", "n"), ("y", "z"), (), (), (
            ("set", "y", ("if", var("x"), ("add", 8, var("n"), const(3)),
                          ("mul", 8, var("n"), ("sub", 8, var("n"), const(1))))),
            ("set", "z", ("xor", ("leq", var("n"), const(2)), ("not", var("x")))))),))

    def test_when_and_merge(self):
        body = self.body("node f(x: bool, n: mod 2) -> (y: mod 2)", "y = merge x (false -> n when not x) (true -> 1:2)", "end",
                         "main f")
        self.equal(body, (("set", "y", ("select", "x", ((F, var("n")), (T, const(1))))),))
        body = self.body("node f(n: mod 2) -> (y: mod 2)", "y = merge n (0 -> 1:2) (1 -> (n + n) when n is 1)", "end", "main f")
        self.equal(body, (("set", "y", ("select", "n", ((0, const(1)), (1, ("add", 2, var("n"), var("n")))))),))

    def test_first_values_of_each_kind(self):
        machine = self.made("sort E = B | A", "node f(b: bool, n: mod 5, e: E) -> (y: bool)", "var p: bool, q: mod 5, r: E, m: bool",
                            "r = pre e", "y = true", "q = pre n", "m = true fby false", "p = pre b", "end", "main f")
        self.equal(machine[0][3], ("B", 0, True, False))
        self.equal(machine[0][5], (
            ("set", "r", ("cell", 0)), ("set", "y", const(T)), ("set", "q", ("cell", 1)), ("set", "m", ("cell", 2)),
            ("set", "p", ("cell", 3)), ("store", 0, var("e")), ("store", 1, var("n")), ("store", 2, const(F)),
            ("store", 3, var("b"))))

    def test_statements_stand_in_the_order_of_the_first_schedule(self):
        body = self.body("node f(x: bool) -> (y: bool)", "var a: bool, b: bool, c: bool", "y = a and b", "a = not b", "c = pre y",
                         "b = x or c", "end", "main f")
        self.equal([row[1] for row in body], ["c", "b", "a", "y", 0])
        body = self.body("node f(x: bool) -> (y: bool)", "var a: bool, b: bool", "b = pre a", "a = pre y", "y = b or x", "end", "main f")
        self.equal(body, (("set", "b", ("cell", 0)), ("set", "a", ("cell", 1)), ("set", "y", ("or", var("b"), var("x"))),
                          ("store", 0, var("a")), ("store", 1, var("y"))))

    def test_guards(self):
        lines = ("node f(c: bool, x: mod 3) -> (y: mod 3)", "var a: mod 3, b: mod 3, d: mod 3, e: mod 3", "a = x when not c",
                 "b = pre (a when a is 2)".replace("pre (a when a is 2)", "1:3"), "d = pre b", "e = merge a (0 -> 0:3) (1 -> 2:3) (2 -> b + d)",
                 "y = merge c (false -> e) (true -> x when c)", "end", "main f")
        machine = self.made(*lines)
        inner = ((2, (("set", "d", ("cell", 0)),)),)
        self.equal(machine[0][5], (
            ("case", "c", ((F, (("set", "a", var("x")),)),)),
            ("case", "c", ((F, (("case", "a", ((2, (("set", "b", const(1)),)),)),)),)),
            ("case", "c", ((F, (("case", "a", inner),)),)),
            ("case", "c", ((F, (("set", "e", ("select", "a", ((0, const(0)), (1, const(2)), (2, ("add", 3, var("b"), var("d")))))),)),)),
            ("set", "y", ("select", "c", ((F, var("e")), (T, var("x"))))),
            ("case", "c", ((F, (("case", "a", ((2, (("store", 0, var("b")),)),)),)),))))

    def test_marks_on_clocks(self):
        body = self.body("node f(c: bool) -> (y: bool)", "var m: bool", "m = true fby false", "y = merge c (false -> true) (true -> m)",
                         "end", "main f")
        self.equal(body, (("case", "c", ((T, (("set", "m", ("cell", 0)),)),)),
                          ("set", "y", ("select", "c", ((F, const(T)), (T, var("m"))))),
                          ("case", "c", ((T, (("store", 0, const(F)),)),))))

    def test_calls(self):
        machine = self.made(
            "node idle(x: bool) -> (y: bool)", "y = x", "end",
            "node one(x: bool) -> (y: bool)", "y = pre x", "end",
            "node two(x: bool, n: mod 4) -> (y: bool, m: mod 4)", "var k: bool", "k = one(not x) every n = 3:4", "m = n + 1:4", "y = one(k)", "end",
            "node f(x: bool, n: mod 4) -> (y: bool, z: bool)", "var m: mod 4, k: mod 4, c: bool, a: bool, b: mod 4",
            "(y, m) = two(x or x, n)", "c = one(x)", "(a, b) = two(x when c, 2:4) every (n = n) when c", "(z, k) = two(y, m) every y",
            "end", "main f", )
        self.equal([row[0] for row in machine], ["one", "two", "f"])
        self.equal([row[4] for row in machine], [(), (0, 0), (1, 0, 1, 1)])
        self.equal(machine[1][5], (("call", ("k",), 0, (("not", var("x")),), ("eq", var("n"), const(3))),
                                   ("set", "m", ("add", 4, var("n"), const(1))), ("call", ("y",), 1, (var("k"),), None)))
        self.equal(machine[2][5], (
            ("call", ("y", "m"), 0, (("or", var("x"), var("x")), var("n")), None),
            ("call", ("c",), 1, (var("x"),), None),
            ("case", "c", ((T, (("call", ("a", "b"), 2, (var("x"), const(2)), ("eq", var("n"), var("n"))),)),)),
            ("call", ("z", "k"), 3, (var("y"), var("m")), var("y"))))

    def test_nodes_that_main_does_not_need(self):
        lines = ["node a(x: bool) -> (y: bool)", "y = pre x", "end", "node b(x: bool) -> (y: bool)", "y = a(x)", "end",
                 "node c(x: bool) -> (y: bool)", "y = a(x)", "end"]
        self.equal([row[0] for row in self.made(*lines, "main c")], ["a", "c"])
        self.equal([row[0] for row in self.made(*lines, "main b")], ["a", "b"])
        self.equal([row[0] for row in self.made(*lines, "main a")], ["a"])

    def test_second_reckoning(self):
        for seed in range(60):
            value = normalized(program_of(seed))
            self.assertEqual(repr(made(value)), repr(oracle.made(value)), seed)


def program_of(seed):
    """A random right program, every third one with blocks that are translated."""
    blocks = 0.4 if seed % 3 == 0 else 0.0
    while True:
        value = translated(Righting(seed, nil=0.05, blocks=blocks).program(1 + seed % 3))
        if is_right(value):
            return value
        seed += 1000


class FinishedTest(unittest.TestCase):
    """[8.9]: dropped, then joined."""

    def test_it_is_dropped_and_joined(self):
        value = read_program("node f(c: bool, x: bool) -> (y: bool)\nvar a: bool, b: bool, d: bool\na = x when c\nb = a fby a\n"
                             "d = false fby d\ny = merge c (false -> false) (true -> b)\nend\nmain f")
        machine = finished(value)
        self.assertTrue(is_step_machine(machine))
        self.assertEqual(machine, (("f", ("c", "x"), ("y",), (False, True, False, True), (), (
            ("case", "c", ((True, (("set", "a", var("x")), ("set", "t0", ("cell", 0)), ("set", "t1", ("cell", 1)),
                                   ("set", "b", ("if", var("t1"), var("a"), var("t0"))))),)),
            ("set", "t2", ("cell", 2)), ("set", "t3", ("cell", 3)), ("set", "d", ("if", var("t3"), const(False), var("t2"))),
            ("set", "y", ("select", "c", ((False, const(False)), (True, var("b"))))),
            ("case", "c", ((True, (("store", 0, var("a")), ("store", 1, const(False)))),)),
            ("store", 2, var("d")), ("store", 3, const(False)))),))

    def test_values_stand_in_the_order_of_their_kind(self):
        value = read_program("sort E = B | A\nnode f(e: E, x: bool) -> (y: bool)\nvar a: bool, b: bool\na = x when e is A\n"
                             "b = not x when e is B\ny = merge e (B -> b) (A -> a)\nend\nmain f")
        self.assertEqual(finished(value)[0][5][0], ("case", "e", (
            ("B", (("set", "b", ("not", var("x"))),)), ("A", (("set", "a", var("x")),)))))

    def test_what_is_read_nowhere_goes(self):
        value = read_program("node g(x: bool) -> (y: bool)\ny = false fby x\nend\nnode f(x: bool) -> (y: bool)\nvar a: bool, b: bool\n"
                             "a = g(x)\nb = pre a\ny = x -> x\nend\nmain f")
        self.assertEqual(finished(value), (("f", ("x",), ("y",), (True,), (), (
            ("set", "t0", ("cell", 0)), ("set", "y", ("if", var("t0"), var("x"), var("x"))), ("store", 0, const(False)))),))

    def test_second_reckoning(self):
        for seed in range(60):
            value = normalized(program_of(seed))
            orders = {node[0]: {x: oracle.values_in(value, kind) for row in node[1:4] for x, kind in row} for node in value[1]}
            machine = oracle.dropped(oracle.made(value))
            machine = tuple(row[:5] + (oracle.joined(row[5], orders[row[0]]),) for row in machine)
            self.assertEqual(repr(finished(value)), repr(machine), seed)
            self.assertEqual(finished(value), joined(dropped(made(value)), orders))
            self.assertEqual(finished(value), finished(program_of(seed)))


class MeaningTest(unittest.TestCase):
    """[8.10]"""

    def test_outputs_and_sizes(self):
        smaller = 0
        for seed in range(120):
            value = program_of(seed)
            machines = (made(normalized(value)), finished(value))
            rows = Righting(seed + 1).rows(value, 40)
            outputs, _ = run(value, rows)
            for machine in machines:
                self.assertTrue(is_step_machine(machine))
                self.assertTrue(same(run_steps(machine, rows[:len(outputs)]), outputs), seed)
            self.assertEqual(size_of(machines[0]), cell_count(value))
            self.assertLessEqual(size_of(machines[1]), cell_count(value))
            smaller += size_of(machines[1]) < cell_count(value)
        self.assertGreater(smaller, 10)

    def test_resets_and_clocks(self):
        value = read_program(
            "node count(by: mod 8) -> (n: mod 8)\nn = (0:8 fby n) + by\nend\n"
            "node f(c: bool, r: bool, by: mod 8) -> (n: mod 8)\nvar a: mod 8\na = count(by when c) every r when c\n"
            "n = merge c (false -> 7:8) (true -> a)\nend\nmain f")
        rows = ((T, F, 1), (T, F, 1), (F, T, 1), (T, F, 3), (T, T, 2), (F, F, 0), (T, F, 6), (T, F, 1))
        told = ((1,), (2,), (7,), (5,), (2,), (7,), (0,), (1,))
        self.assertEqual(run(value, rows), (told, None))
        self.assertEqual(run_steps(made(normalized(value)), rows), told)
        self.assertEqual(run_steps(finished(value), rows), told)
        self.assertEqual(size_of(finished(value)), 2)

    def test_without_memory_and_without_inputs(self):
        value = read_program("node f() -> (y: bool)\ny = true\nend\nmain f")
        self.assertEqual(finished(value), (("f", (), ("y",), (), (), (("set", "y", const(True)),)),))
        self.assertEqual((size_of(finished(value)), run_steps(finished(value), ((), ()))), (0, ((True,), (True,))))


if __name__ == "__main__":
    unittest.main()
