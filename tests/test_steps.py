"""[8.1] to [8.5]: the form of step machines, their steps and sizes."""

import unittest

from everytick.steps import first_memory, is_step_machine, run_steps, size_of, step
from tests import machine_oracle as oracle
from tests.machine_oracle import Machines
from tests.samples import ODD_VALUES, deep, paths, replaced, same, value_at

T, F = True, False
X = ("var", "x")


def const(value):
    return ("const", value)


def machine(*body, inputs=("x",), outputs=("y",), cells=(), parts=(), before=()):
    return before + (("main", inputs, outputs, cells, parts, body),)


def setting(tree, **options):
    """A machine that gives the value of a tree."""
    return machine(("set", "y", tree), **options)


ADDER = ("adder", ("a", "b"), ("s", "o"), (0,), (), (
    ("set", "s", ("add", 10, ("var", "a"), ("var", "b"))),
    ("set", "o", ("cell", 0)),
    ("store", 0, ("add", 10, ("cell", 0), ("var", "s")))))

GOOD = machine(
    ("case", "x", ((True, (("set", "y", const(1)), ("store", 1, X))), (1, ()), ("A", (("set", "y", ("cell", 0)),)))),
    ("call", ("p", "q"), 0, (("select", "x", ((True, const(1)), (1, const(0)))), ("sub", 2, const(1), const(0))), ("not", X)),
    ("call", ("q", "q"), 1, (const(3), ("mul", 32, const(3), ("var", "p"))), None),
    ("set", "z", ("if", ("eq", X, const(T)), ("leq", const(1), ("var", "q")), ("and", const(T), ("xor", X, ("or", X, X))))),
    outputs=("y", "z"), cells=(T, -5, "", "A"), parts=(0, 0), before=(ADDER,))


class FormTest(unittest.TestCase):
    """[8.1] to [8.3], and what is_step_machine asks for."""

    def good(self, value):
        self.assertIs(is_step_machine(value), True)
        self.assertTrue(oracle.is_machine(value))

    def bad(self, value):
        self.assertIs(is_step_machine(value), False, value)
        self.assertFalse(oracle.is_machine(value))

    def test_good_machines(self):
        self.good(GOOD)
        self.good((ADDER,))
        self.good(machine())
        self.good((("", (), (), (), (), ()),))
        self.good((("", (), (), (), (), ()), ("a b", ("x", "x", "A long name!"), ("none",), (), (0, 0, 0), ())))
        self.good(setting(const(10 ** 30)))
        self.good(setting(const(-3)))

    def test_other_values(self):
        for value in ODD_VALUES + ((ADDER, None), [ADDER], ADDER, ((),), (ADDER[:5],), (ADDER + ((),),), (list(ADDER),)):
            self.bad(value)

    def test_classes(self):
        self.bad((ADDER, ADDER))
        self.bad(((3,) + ADDER[1:],))
        self.bad(((None,) + ADDER[1:],))
        for k in (1, 2):
            for value in (("",), (3,), (None,), ("x", ("y",)), "ab", None, ["x"], (True,), {"a": 1}):
                self.bad((machine()[0][:k] + (value,) + machine()[0][k + 1:],))
        for value in ((None,), ((),), ((1,),), (1.5,), 3, "ab", [1], (b"x",)):
            self.bad(machine(cells=value))
        for value in ((1,), (-1,), (None,), ("0",), (F,), [0], 0, (0, 1), ((0,),)):
            self.bad(machine(parts=value, before=(ADDER,)))
        self.bad(machine(parts=(0,)))
        self.good(machine(parts=(0, 0), before=(ADDER,)))
        self.bad((("a", (), (), (), (1,), ()), ("b", (), (), (), (), ())))
        for value in (None, [("set", "y", X)], "ab", 3):
            self.bad((machine()[0][:5] + (value,),))

    def test_statements(self):
        for value in (("set", "y"), ("set", "y", X, X), ("set", "", X), ("set", 1, X), ("set", ("y",), X), ("set", "y", None),
                      ("set", "y", "x"), ["set", "y", X], ("get", "y", X), (), ("set",), None, "set", (("set", "y", X),),
                      ("Set", "y", X), (True, "y", X), (("set",), "y", X)):
            self.bad(machine(value))
        for value in (("store", 1, X), ("store", -1, X), ("store", F, X), ("store", "0", X), ("store", 0), ("store", 0, None),
                      ("store", 0, X, X), ("store", None, X)):
            self.bad(machine(value, cells=(3,)))
        self.good(machine(("store", 0, X), cells=(3,)))
        self.bad(machine(("store", 0, X)))

    def test_calls(self):
        def call(*rest):
            return machine(("call",) + rest, parts=(0,), before=(ADDER,))

        self.good(call(("p", "q"), 0, (X, X), None))
        self.good(call(("p", "p"), 0, (X, const(3)), X))
        for rest in ((("p",), 0, (X, X), None), (("p", "q", "r"), 0, (X, X), None), (("p", "q"), 1, (X, X), None),
                     (("p", "q"), -1, (X, X), None), (("p", "q"), F, (X, X), None), (("p", "q"), "0", (X, X), None),
                     (("p", "q"), None, (X, X), None), (("p", "q"), 0, (X,), None), (("p", "q"), 0, (X, X, X), None),
                     (("p", "q"), 0, (X, None), None), (("p", "q"), 0, (X, X), F), (("p", "q"), 0, (X, X), "x"),
                     (("p", "q"), 0, (X, X), ()), (("p", ""), 0, (X, X), None), (("p", 1), 0, (X, X), None),
                     (["p", "q"], 0, (X, X), None), (("p", "q"), 0, [X, X], None), (("p", "q"), 0, (X, X)), ("pq", 0, (X, X), None),
                     (("p", "q"), 0, (X, X), None, None), ((), 0, (), None), (("p", "q"), 0, None, None)):
            self.bad(call(*rest))
        # Numbers of parts are those of the class, not of the machine.
        two = (ADDER, ("other", (), (), (), (), ()))
        self.good(machine(("call", (), 0, (), None), parts=(1,), before=two))
        self.bad(machine(("call", (), 1, (), None), parts=(1,), before=two))
        self.bad(machine(("call", ("p", "q"), 0, (X, X), None), parts=(1,), before=two))
        self.good(machine(("call", ("p", "q"), 1, (X, X), None), parts=(1, 0), before=two))

    def test_cases(self):
        self.good(machine(("case", "x", ())))
        self.good(machine(("case", "x", ((T, ()), (1, ()), (F, ()), (0, ()), ("True", ()), ("", ()), (-1, ())))))
        for branches in (((T, ()), (T, ())), ((0, ()), (1, ()), (0, ())), (("A", ()), ("A", ())), ((None, ()),), ((T,),),
                         ((T, (), ()),), (T, ()), [(T, ())], ((T, None),), ((T, [()]),), ((T, ("set", "y", X)),), None,
                         (((T,), ()),), ((T, (("set", "y"),)),), ((1.0, ()),)):
            self.bad(machine(("case", "x", branches)))
        for x in ("", 1, None, ("x",), X, T):
            self.bad(machine(("case", x, ((T, ()),))))
        self.bad(machine(("case", "x")))
        self.bad(machine(("case", "x", (), ())))
        self.bad(machine(("case", "x", ((T, (("case", "y", ((F, (("store", 0, X),)),)),)),))))

    def test_expressions(self):
        for word in ("and", "or", "xor", "eq", "ne", "less", "leq"):
            self.good(setting((word, X, X)))
            for tree in ((word, X), (word, X, X, X), (word, 4, X, X), (word, X, None), (word, "x", X), [word, X, X]):
                self.bad(setting(tree))
        for word in ("add", "sub", "mul"):
            for n in (2, 3, 31, 32):
                self.good(setting((word, n, X, X)))
            for n in (1, 0, -2, 33, T, "8", None, ("mod", 8), 2.0):
                self.bad(setting((word, n, X, X)))
            for tree in ((word, X, X), (word, 8, X), (word, 8, X, X, X), (word, 8, X, None)):
                self.bad(setting(tree))
        self.good(setting(("not", X)))
        self.good(setting(("if", X, X, X)))
        for tree in (("not",), ("not", X, X), ("if", X, X), ("if", X, X, X, X), ("if", X, X, F), ("pre", X), ("arrow", X, X),
                     ("fby", X, X), ("when", X, "x", T), ("merge", "x", ((F, X), (T, X))), ("call", "g", (), None),
                     ("", X), ("nothing", X), (), None, "x", 3, T, (X,), ("And", X, X)):
            self.bad(setting(tree))

    def test_leaves(self):
        for value in (T, F, 0, -7, "", "A", "true", 10 ** 40):
            self.good(setting(const(value)))
        for tree in (const(None), const((1,)), const(1.5), ("const", 1, ("mod", 8)), ("const",), const([]), ("var",),
                     ("var", ""), ("var", 1), ("var", None), ("var", "x", "x"), ("var", ("x",)), ("cell",), ("cell", 2),
                     ("cell", -1), ("cell", F), ("cell", "0"), ("cell", 0, 0), ("cell", None)):
            self.bad(setting(tree, cells=(1, 2)))
        self.good(setting(("cell", 1), cells=(1, 2)))
        self.bad(setting(("cell", 0)))

    def test_selects(self):
        for branches in (((T, X),), ((T, X), (1, X), ("1", X)), ((0, X), (F, X)), (("", const(1)),)):
            self.good(setting(("select", "x", branches)))
        for branches in ((), ((T, X), (T, X)), ((1, X), (1, X)), ((None, X),), ((T, None),), ((T,),), ((T, X, X),), [(T, X)],
                         (T, X), None, ((("A",), X),), ((T, ("pre", X)),)):
            self.bad(setting(("select", "x", branches)))
        for tree in (("select", "x"), ("select", "", ((T, X),)), ("select", 1, ((T, X),)), ("select", X, ((T, X),)),
                     ("select", "x", ((T, X),), X)):
            self.bad(setting(tree))

    def test_depth(self):
        self.good(setting(deep(20)))
        self.good(setting(deep(40)))
        self.good(setting(deep(90)))
        self.bad(setting(deep(90, ("pre", X))))
        statement = ("set", "y", X)
        for _ in range(20):
            statement = ("case", "x", ((T, (statement,)),))
        self.good(machine(statement))

    def test_spoilt_machines(self):
        for value in [GOOD] + [Machines(seed).machine() for seed in range(8)]:
            self.good(value)
            for path in paths(value):
                for odd in oracle.ODD:
                    if not same(odd, value_at(value, path)):
                        spoilt = replaced(value, path, odd)
                        self.assertIs(is_step_machine(spoilt), oracle.is_machine(spoilt), spoilt)


class ExpressionsTest(unittest.TestCase):
    """[8.2], [8.4]"""

    def value(self, tree, x=None, cells=()):
        (found,), _ = step(setting(tree, cells=cells), (cells, ()), (x,))
        return found

    def expect(self, tree, expected, **more):
        self.assertTrue(same(self.value(tree, **more), expected), (tree, self.value(tree, **more), expected))

    def test_leaves(self):
        for value in oracle.VALUES:
            self.expect(const(value), value)
            self.expect(X, value, x=value)
            self.expect(("cell", 1), value, cells=(3, value))
        self.expect(("var", "nosuch"), None)
        self.expect(X, None, x=None)
        self.expect(("cell", 0), None, cells=(None,))

    def test_logic(self):
        for a in (T, F):
            self.expect(("not", X), not a, x=a)
            for b in (T, F):
                for word, expected in (("and", a and b), ("or", a or b), ("xor", a != b), ("eq", a == b), ("ne", a != b)):
                    self.expect((word, const(a), const(b)), expected)
        for odd in (None, 0, 1, "A", "true", -1):
            self.expect(("not", X), None, x=odd)
            for word in ("and", "or", "xor"):
                for other in (T, F, odd):
                    self.expect((word, X, const(other) if other is not None else X), None, x=odd)
                    self.expect((word, const(other) if other is not None else X, X), None, x=odd)

    def test_equality(self):
        for k, a in enumerate(oracle.VALUES):
            for j, b in enumerate(oracle.VALUES):
                self.expect(("eq", X, const(b)), k == j, x=a)
                self.expect(("ne", X, const(b)), k != j, x=a)
            for word in ("eq", "ne"):
                self.expect((word, X, const(a)), None)
                self.expect((word, const(a), X), None)
                self.expect((word, X, X), None)

    def test_numbers(self):
        for a, b, less, leq in ((1, 2, T, T), (2, 2, F, T), (3, 2, F, F), (-1, 0, T, T), (100, 5, F, F)):
            self.expect(("less", const(a), const(b)), less)
            self.expect(("leq", const(a), const(b)), leq)
        for word, n, a, b, expected in (("add", 8, 5, 6, 3), ("add", 2, 1, 1, 0), ("sub", 8, 2, 5, 5), ("sub", 32, 0, 1, 31),
                                        ("mul", 8, 7, 7, 1), ("mul", 32, 31, 2, 30), ("add", 3, 40, -1, 0), ("sub", 5, -9, 3, 3),
                                        ("mul", 7, -2, 4, 6), ("add", 10, 0, 0, 0)):
            self.expect((word, n, const(a), const(b)), expected)
        for odd in (None, T, F, "A", "1"):
            for word in ("less", "leq"):
                self.expect((word, X, const(1)), None, x=odd)
                self.expect((word, const(1), X), None, x=odd)
            for word in ("add", "sub", "mul"):
                self.expect((word, 8, X, const(1)), None, x=odd)
                self.expect((word, 8, const(0), X), None, x=odd)

    def test_if(self):
        self.expect(("if", X, const(1), const(2)), 1, x=T)
        self.expect(("if", X, const(1), const(2)), 2, x=F)
        for odd in (None, 0, 1, "A", "", "true"):
            self.expect(("if", X, const(1), const(1)), None, x=odd)
        self.expect(("if", const(T), const("A"), ("var", "z")), "A")
        self.expect(("if", const(F), ("var", "z"), const(T)), T)
        self.expect(("if", const(T), ("var", "z"), const(T)), None)

    def test_select(self):
        tree = ("select", "x", ((T, const("yes")), (1, const("one")), ("A", ("var", "z")), (F, X), ("", const(4))))
        for value, expected in ((T, "yes"), (1, "one"), ("A", None), (F, F), ("", 4), (0, None), (None, None), ("B", None), (2, None)):
            self.expect(tree, expected, x=value)

    def test_deep_trees(self):
        self.expect(deep(91), T, x=T)
        self.expect(deep(92), F, x=T)


class StepsTest(unittest.TestCase):
    """[8.3], [8.4]"""

    def run_it(self, value, *rows):
        self.assertTrue(is_step_machine(value))
        found = run_steps(value, rows)
        memory = first_memory(value)
        for row, told in zip(rows, found):
            outputs, memory = step(value, memory, row)
            self.assertTrue(same(outputs, told))
        return found

    def test_set_and_variables(self):
        value = machine(("set", "y", ("var", "z")), ("set", "z", X), ("set", "w", ("var", "z")), outputs=("y", "z", "w", "x"))
        self.assertTrue(same(self.run_it(value, (3,), (T,)), ((None, 3, 3, 3), (None, T, T, T))))
        value = machine(("set", "x", ("not", X)), ("set", "y", X), ("set", "x", const(4)), outputs=("x", "y", "nosuch"))
        self.assertTrue(same(self.run_it(value, (T,)), ((4, F, None),)))

    def test_variables_begin_anew(self):
        value = machine(("case", "x", ((T, (("set", "y", const(1)),)),)))
        self.assertTrue(same(self.run_it(value, (T,), (F,), (T,)), ((1,), (None,), (1,))))

    def test_cells(self):
        value = machine(("set", "y", ("cell", 0)), ("store", 0, X), ("set", "z", ("cell", 0)), ("store", 1, ("cell", 0)),
                        outputs=("y", "z"), cells=("A", T, 7))
        self.assertTrue(same(first_memory(value), (("A", T, 7), ())))
        self.assertTrue(same(self.run_it(value, (1,), (T,), (None,), (0,)), (("A", 1), (1, T), (T, None), (None, 0))))
        self.assertTrue(same(step(value, (("B", F, 2), ()), (5,)), (("B", 5), ((5, 5, 2), ()))))

    def test_cases(self):
        value = machine(("set", "y", const("none")), ("case", "x", (
            (1, (("set", "y", const("one")),)), (T, (("set", "y", const("true")), ("set", "z", X))), ("A", ()))),
            outputs=("y", "z"))
        self.assertTrue(same(self.run_it(value, (T,), (1,), ("A",), (F,), (0,), (None,), ("B",)), (
            ("true", T), ("one", None), ("none", None), ("none", None), ("none", None), ("none", None), ("none", None))))
        value = machine(("case", "nosuch", ((T, (("set", "y", X),)),)))
        self.assertEqual(self.run_it(value, (T,)), ((None,),))

    def test_cases_in_cases(self):
        value = machine(("case", "x", ((T, (("case", "z", ((T, (("store", 0, const(9)), ("set", "y", const(1)))),)),
                                            ("case", "z", ((F, (("set", "y", ("cell", 0)),)),)))),)),
                        inputs=("x", "z"), cells=(5,))
        self.assertEqual(self.run_it(value, (T, F), (F, T), (T, T), (T, F)), ((5,), (None,), (1,), (9,)))

    def test_a_case_looks_at_its_variable_once(self):
        value = machine(("case", "x", ((T, (("set", "x", const(F)), ("set", "y", const(1)))), (F, (("set", "y", const(2)),)))))
        self.assertEqual(self.run_it(value, (T,), (F,)), ((1,), (2,)))

    def test_calls(self):
        call = ("call", ("y", "z"), 0, (X, const(1)), None)
        value = machine(call, outputs=("y", "z"), parts=(0,), before=(ADDER,))
        self.assertEqual(first_memory(value), ((), (((0,), ()),)))
        self.assertEqual(self.run_it(value, (1,), (2,), (3,)), ((2, 0), (3, 2), (4, 5)))
        self.assertEqual(step(value, ((), (((4,), ()),)), (1,)), ((2, 4), ((), (((6,), ()),))))
        value = machine(call, call, outputs=("y", "z"), parts=(0,), before=(ADDER,))
        self.assertEqual(self.run_it(value, (1,), (2,)), ((2, 2), (3, 7)))
        value = machine(("call", ("y", "z"), 1, (X, const(1)), None), outputs=("y", "z"), parts=(0, 0), before=(ADDER,))
        self.assertEqual(step(value, first_memory(value), (1,)), ((2, 0), ((), (((0,), ()), ((2,), ())))))

    def test_parts_get_and_give_any_values(self):
        value = machine(("call", ("y", "y"), 0, (X, ("var", "nosuch")), None), parts=(0,), before=(ADDER,))
        self.assertEqual(step(value, first_memory(value), (1,)), ((0,), ((), (((None,), ()),))))
        inner = ("inner", ("a",), ("b", "a"), (), (), (("set", "c", ("var", "a")), ("set", "a", const("B"))))
        value = machine(("set", "y", const(4)), ("call", ("y", "z"), 0, (X,), None), outputs=("y", "z", "c", "a"), parts=(0,),
                        before=(inner,))
        self.assertEqual(self.run_it(value, (T,)), ((None, "B", None, None),))

    def test_resets(self):
        call = ("call", ("y", "z"), 0, (const(1), const(1)), X)
        value = machine(call, outputs=("z",), parts=(0,), before=(ADDER,))
        self.assertEqual(self.run_it(value, (F,), (F,), (T,), (F,)), ((0,), (2,), (0,), (2,)))
        self.assertEqual(self.run_it(value, (F,), (1,), ("A",), (None,), (T,)), ((0,), (2,), (4,), (6,), (0,)))

    def test_resets_reach_parts_of_parts(self):
        middle = ("middle", (), ("z",), (3,), (0,), (("call", ("y", "z"), 0, (("cell", 0), const(0)), None), ("store", 0, const(1))))
        value = machine(("call", ("y",), 0, (), X), parts=(1,), before=(ADDER, middle))
        self.assertEqual(first_memory(value), ((), (((3,), (((0,), ()),)),)))
        self.assertEqual(self.run_it(value, (F,), (F,), (F,), (T,), (F,), (T,)), ((0,), (3,), (4,), (0,), (3,), (0,)))

    def test_a_call_in_a_case(self):
        value = machine(("case", "x", ((T, (("call", ("y", "z"), 0, (const(1), const(1)), None),)),)), outputs=("z",),
                        parts=(0,), before=(ADDER,))
        self.assertEqual(self.run_it(value, (T,), (F,), (F,), (T,), (T,)), ((0,), (None,), (None,), (2,), (4,)))

    def test_many_parts_inside_each_other(self):
        a = ("var", "a")
        classes = (("c0", ("a",), ("b",), (0,), (), (("set", "b", ("cell", 0)), ("store", 0, ("add", 5, a, ("cell", 0))))),)
        for k in range(1, 1500):
            body = (("case", "a", ((1, (("call", ("b",), 0, (a,), None),)), (2, (("set", "b", const(7)),)))),)
            classes += ((f"c{k}", ("a",), ("b",), (), (0,), body),)
        self.assertTrue(is_step_machine(classes))
        self.assertEqual(run_steps(classes, ((1,), (1,), (2,), (1,), (3,))), ((0,), (1,), (7,), (2,), (None,)))
        self.assertEqual(size_of(classes), 1)

    def test_no_rows_no_inputs_no_outputs(self):
        value = machine(("store", 0, ("add", 5, ("cell", 0), const(1))), inputs=(), outputs=(), cells=(0,))
        self.assertEqual(run_steps(value, ()), ())
        self.assertEqual(self.run_it(value, (), ()), ((), ()))
        self.assertEqual(step(value, ((4,), ()), ()), ((), ((0,), ())))

    def test_the_last_class_is_the_main_class(self):
        other = ("other", (), ("y",), (7,), (), (("set", "y", ("cell", 0)),))
        self.assertEqual(run_steps((other, ADDER), ((1, 2),)), ((3, 0),))
        self.assertEqual(run_steps((ADDER, other), ((),)), ((7,),))

    def test_a_step_changes_nothing_else(self):
        memory = first_memory(GOOD)
        before = (repr(GOOD), repr(memory))
        step(GOOD, memory, (T,))
        run_steps(GOOD, ((T,), (1,), ("A",)))
        self.assertEqual((repr(GOOD), repr(memory)), before)

    def test_a_larger_machine(self):
        rows = ((T,), (1,), ("A",), (F,), (None,), (T,))
        self.assertTrue(is_step_machine(GOOD))
        memory = oracle.beginning(GOOD, 1)
        for row, outputs in zip(rows, run_steps(GOOD, rows)):
            expected, memory = oracle.step(GOOD, 1, memory, row)
            self.assertTrue(same(outputs, expected))

    def test_random_machines(self):
        kinds = {}
        for seed in range(800):
            maker = Machines(seed)
            value = maker.machine()
            self.assertIs(is_step_machine(value), True)
            rows = tuple(tuple(maker.random.choice(oracle.VALUES + (None,)) for _ in value[-1][1]) for _ in range(6))
            found = run_steps(value, rows)
            memory = oracle.beginning(value, len(value) - 1)
            self.assertTrue(same(first_memory(value), memory))
            self.assertEqual(size_of(value), oracle.size(value, len(value) - 1))
            for row, outputs in zip(rows, found):
                expected = oracle.step(value, len(value) - 1, memory, row)
                self.assertTrue(same(step(value, memory, row), expected))
                self.assertTrue(same(outputs, expected[0]))
                memory = expected[1]
                for out in outputs:
                    kinds[type(out)] = kinds.get(type(out), 0) + 1
        self.assertGreater(min(kinds[kind] for kind in (bool, int, str, type(None))), 100)


class SizesTest(unittest.TestCase):
    """[8.5]"""

    def test_sizes(self):
        self.assertEqual(size_of(machine()), 0)
        self.assertEqual(size_of(machine(cells=(1, T, "A"))), 3)
        self.assertEqual(size_of((ADDER,)), 1)
        self.assertEqual(size_of(GOOD), 6)
        self.assertEqual(size_of(machine(cells=(1,), before=(ADDER,))), 1)

    def test_parts_in_parts(self):
        two = ("two", (), (), (1, 2), (0, 0), ())
        three = ("three", (), (), (), (1, 0), ())
        self.assertEqual(size_of((ADDER, two)), 4)
        self.assertEqual(size_of((ADDER, two, three)), 5)
        self.assertEqual(size_of((ADDER, two, three, ("main", (), (), (1,), (2, 2, 1), ()))), 15)

    def test_many_parts(self):
        value = (("c0", (), (), (0,), (), ()),)
        for k in range(1, 60):
            value += ((f"c{k}", (), (), (), (k - 1, k - 1), ()),)
        self.assertEqual(size_of(value), 2 ** 59)
        self.assertIs(is_step_machine(value), True)
