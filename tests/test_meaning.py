"""[4.1] to [4.8]: instances, states, instants, faults, runs and traces."""

import random
import unittest

from everytick.causality import is_right
from everytick.meaning import beginning, instant, is_row, is_state, run, trace
from everytick.program_texts import read_program
from tests import meaning_oracle as oracle
from tests.righting import Righting, values
from tests.samples import ODD_VALUES, paths, replaced, same, value_at

T, F = True, False


def read(*lines):
    program = read_program("\n".join(lines))
    assert is_right(program), lines
    return program


def node(*lines, header="node f(x: bool, n: mod 4) -> (y: bool)", inner="", before=()):
    """A program with a node f of these equations as main."""
    var = [f"var {inner}"] if inner else []
    return read(*before, header, *var, *lines, "end", "main f")


def one(program, rows):
    """The values of the one output along a run without a fault."""
    outputs, fault = run(program, rows)
    assert fault is None, fault
    return [row[0] for row in outputs]


def shown(program, x, rows):
    """What a trace tells of a variable of main."""
    names = [name for row in [node for node in program[1] if node[0] == program[2]][0][1:4] for name, _ in row]
    return [row[names.index(x)] for row in trace(program, rows)]


class MeaningTest(unittest.TestCase):
    def same(self, found, expected):
        self.assertTrue(same(found, expected), f"{found} is not {expected}")

    def faults(self, program, rows, at):
        outputs, fault = run(program, rows)
        self.assertIs(type(fault), int)
        self.assertEqual((len(outputs), fault), (at, at))
        self.same(run(program, rows), oracle.run(program, rows))
        self.assertEqual(len(trace(program, rows)), at)


class StatesTest(MeaningTest):
    """[4.1], [4.2]"""

    def test_the_order_of_memories(self):
        program = node("z = (1:9 -> pre (2:9 fby a)) = (3:9 fby b)", "a = 4:9 -> 5:9", "b = pre a", "y = x",
                       inner="z: bool, a: mod 9, b: mod 9")
        self.same(beginning(program), (((),) * 6, ()))
        _, state = instant(program, beginning(program), (T, 0))
        self.same(state, (((None,), (2,), (4,), (None,), (None,), (4,)), ()))
        _, state = instant(program, state, (T, 0))
        self.same(state, (((None,), (4,), (5,), (4,), (None,), (5,)), ()))

    def test_an_operator_comes_before_its_parts_and_these_from_left_to_right(self):
        program = node("y = x -> (if (1:9 fby 2:9) = (3:9 fby 4:9) then pre (pre x) else merge x (false -> pre true) "
                       "(true -> true fby (x when x)))")
        _, state = instant(program, beginning(program), (T, 0))
        self.same(state[0], ((None,), (2,), (4,), (None,), (T,), (), (T,)))
        _, state = instant(program, (state[0][:5] + ((F,),) + state[0][6:], ()), (F, 0))
        self.same(state[0], ((None,), (2,), (4,), (T,), (F,), (T,), (T,)))

    def test_in_calls_the_arguments_come_before_the_reset(self):
        before = ("node g(a: mod 9, b: mod 9) -> (c: mod 9)", "c = a + (7:9 fby b)", "end",
                  "node h(a: mod 9) -> (c: mod 9, d: mod 9)", "c = a", "d = g(a, 0:9 fby a)", "end")
        program = node("k = g(1:9 fby 2:9, 3:9 fby 4:9) every false fby x", "y = x",
                       "(p, q) = h(5:9 fby 6:9)", inner="k: mod 9, p: mod 9, q: mod 9", before=before)
        start = beginning(program)
        self.same(start, (((), (), (), ()), ((((),), ()), (((),), ((((),), ()),)))))
        _, state = instant(program, start, (T, 0))
        self.same(state[0], ((2,), (4,), (T,), (6,)))
        self.same(state[1], ((((3,),), ()), (((5,),), ((((0,),), ()),))))

    def test_states_follow_the_order_of_the_equations(self):
        one = node("a = 1:9 fby 2:9", "b = pre 3:9", "y = x", inner="a: mod 9, b: mod 9")
        other = node("b = pre 3:9", "y = x", "a = 1:9 fby 2:9", inner="a: mod 9, b: mod 9")
        self.same(instant(one, beginning(one), (T, 0))[1], (((2,), (3,)), ()))
        self.same(instant(other, beginning(other), (T, 0))[1], (((3,), (2,)), ()))

    def test_only_main_counts(self):
        text = ["node g() -> (c: bool)", "c = true fby false", "end", "node f() -> (c: bool)", "c = pre true -> true",
                "end"]
        self.same(beginning(read(*text, "main g")), (((),), ()))
        self.same(beginning(read(*text, "main f")), (((), ()), ()))


class RowsTest(MeaningTest):
    """[4.7], and what is_row and is_state take."""

    def setUp(self):
        self.program = read("sort E = A | B", "node g(e: E) -> (k: E)", "k = A fby e", "end",
                            "node f(x: bool, n: mod 2, e: E) -> (y: bool)", "var k: E, m: mod 2",
                            "k = g(e) every x", "m = 0:2 -> pre n", "y = true fby x", "end", "main f")

    def test_rows(self):
        for row in ((T, 0, "A"), (F, 1, "B")):
            self.assertIs(is_row(self.program, row), True)
        for row in ((1, 0, "A"), (0, 0, "A"), (T, True, "A"), (T, F, "A"), (T, 2, "A"), (T, -1, "A"), (T, 0, "C"),
                    (T, 0, "E"), (T, 0, 0), (T, 0), (T, 0, "A", T), [T, 0, "A"], (T, 0, None), ("true", 0, "A"), (),
                    ((T, 0, "A"),), (T, (0,), "A"), None, True, "A", 3):
            self.assertIs(is_row(self.program, row), False, row)
        empty = node("y = true", header="node f() -> (y: bool)")
        self.assertIs(is_row(empty, ()), True)
        for value in ODD_VALUES:
            if value != ():
                self.assertIs(is_row(empty, value), False)
                self.assertIs(is_row(self.program, value), False)

    def test_states(self):
        for arrow in ((), (None,)):
            for pre in ((), (None,), (0,), (1,)):
                for fby in ((), (None,), (T,), (F,)):
                    for inner in ((), (None,), ("A",), ("B",)):
                        self.assertIs(is_state(self.program, ((arrow, pre, fby), (((inner,), ()),))), True)

    def test_wrong_states(self):
        good = (((None,), (1,), (T,)), (((("A",),), ()),))
        self.assertTrue(is_state(self.program, good))
        for path, value in (((0, 0), (T,)), ((0, 0), (0,)), ((0, 0), (None, None)), ((0, 0), None), ((0, 1), (T,)),
                            ((0, 1), (F,)), ((0, 1), (2,)), ((0, 1), (-1,)), ((0, 1), 1), ((0, 1), ("A",)),
                            ((0, 1), (0, 0)), ((0, 2), (1,)), ((0, 2), (0,)), ((0, 2), T), ((0, 2), ((T,),)),
                            ((1, 0, 0, 0), ("C",)), ((1, 0, 0, 0), (0,)), ((1, 0, 0, 0), "A"), ((1, 0, 1), ((),)),
                            ((1, 0), ((("A",),), (), ())), ((1, 0), (("A",),)), ((1,), ()), ((1,), good[1] * 2),
                            ((0,), good[0][:2]), ((0,), good[0] + ((),)), ((0,), list(good[0])), ((), list(good)),
                            ((), good[:1]), ((), good + ((),)), ((1, 0), [good[1][0]]), ((0, 1), [1])):
            self.assertIs(is_state(self.program, replaced(good, path, value)), False, (path, value))
        for value in ODD_VALUES:
            self.assertIs(is_state(self.program, value), False)

    def test_spoilt_states_of_random_programs(self):
        for seed in range(15):
            maker = Righting(seed)
            program = maker.program(1 + seed % 3)
            state = beginning(program)
            for row in maker.rows(program, 3):
                told = instant(program, state, row)
                state = state if told is None else told[1]
            self.assertIs(is_state(program, state), True)
            for path in paths(state):
                for value in ODD_VALUES + ((None,), (0,), (1,), (T,), (F,), ("Red",), ((),), ((), ()), (2,)):
                    if not same(value, value_at(state, path)):
                        spoilt = replaced(state, path, value)
                        self.assertIs(is_state(program, spoilt), has_form(program, program[2], spoilt), spoilt)


def has_form(program, name, value):
    """Whether a value is a state of a node by its form, worked out from the texts of the trees."""
    if type(value) is not tuple or len(value) != 2 or type(value[0]) is not tuple or type(value[1]) is not tuple:
        return False
    row = [node for node in program[1] if node[0] == name][0]
    kinds = {x: kind for part in row[1:4] for x, kind in part}
    trees = [tree for tree in oracle.trees_of(row).values() if tree is not None]
    memories = [tree for tree in trees if tree[0] in ("pre", "arrow", "fby")]
    callees = [right[1] for _, right in row[4] if right[0] == "call"]
    if len(memories) != len(value[0]) or len(callees) != len(value[1]):
        return False
    for tree, cell in zip(memories, value[0]):
        fine = [(), (None,)]
        if tree[0] != "arrow":
            fine += [(v,) for v in values(kind_in(kinds, tree))]
        if not any(same(cell, good) for good in fine):
            return False
    return all(has_form(program, callee, state) for callee, state in zip(callees, value[1]))


def kind_in(kinds, tree):
    if tree[0] == "const":
        return tree[2]
    if tree[0] == "var":
        return kinds[tree[1]]
    if tree[0] in ("not", "and", "or", "xor", "eq", "ne", "less", "leq"):
        return "bool"
    return kind_in(kinds, oracle.parts(tree)[1 if tree[0] == "if" else 0])


class ValuesTest(MeaningTest):
    """[4.3]"""

    def value(self, text, kind, x=T, n=3, sorts=()):
        program = node(f"y = {text}", header=f"node f(x: bool, n: mod 4) -> (y: {kind})", before=sorts)
        return one(program, ((x, n),))[0]

    def test_logic(self):
        for a in (T, F):
            for b in (T, F):
                for word, expected in (("and", a and b), ("or", a or b), ("xor", a != b), ("=", a == b), ("<>", a != b)):
                    text = f"{str(a).lower()} {word} {str(b).lower()}"
                    self.assertIs(self.value(text, "bool"), expected)
            self.assertIs(self.value("not x", "bool", a), not a)

    def test_numbers(self):
        for n in (2, 3, 31, 32):
            top = n - 1
            for text, expected in ((f"{top}:{n} + 1:{n}", 0), (f"{top}:{n} + {top}:{n}", n - 2), (f"0:{n} - 1:{n}", top),
                                   (f"0:{n} - {top}:{n}", 1), (f"{top}:{n} * {top}:{n}", 1), (f"0:{n} * {top}:{n}", 0),
                                   (f"{top}:{n} - {top}:{n}", 0), (f"0:{n} + 0:{n}", 0)):
                self.same(self.value(text, f"mod {n}"), expected)
            for text, expected in ((f"0:{n} < {top}:{n}", T), (f"{top}:{n} < 0:{n}", F), (f"{top}:{n} < {top}:{n}", F),
                                   (f"{top}:{n} <= {top}:{n}", T), (f"{top}:{n} <= 0:{n}", F), (f"0:{n} <= 0:{n}", T),
                                   (f"0:{n} = {top}:{n}", F), (f"{top}:{n} <> 0:{n}", T)):
                self.same(self.value(text, "bool"), expected)
        self.same(self.value("5:7 * 4:7 - 6:7", "mod 7"), 0)

    def test_values_keep_their_kinds(self):
        self.same(self.value("1:2", "mod 2"), 1)
        self.same(self.value("0:2 * 1:2", "mod 2"), 0)
        self.same(self.value("1:2 = 1:2", "bool"), T)
        self.same(self.value("if x then 1:2 else 0:2", "mod 2"), 1)
        self.same(self.value("C", "E", sorts=("sort E = B | C",)), "C")
        self.same(self.value("B = C", "bool", sorts=("sort E = B | C",)), F)
        self.same(self.value("not (1:2 = 0:2)", "bool"), T)

    def test_if(self):
        self.same(self.value("if x then n else 0:4", "mod 4", T), 3)
        self.same(self.value("if x then n else 0:4", "mod 4", F), 0)

    def test_memories(self):
        rows = tuple((F, n) for n in (3, 1, 2, 0))
        header = "node f(x: bool, n: mod 4) -> (y: mod 4)"
        for text, expected in (("0:4 -> n", [0, 1, 2, 0]), ("n fby n + 1:4", [3, 0, 2, 3]), ("n -> pre n", [3, 3, 1, 2]),
                               ("0:4 -> pre (0:4 -> pre n)", [0, 0, 3, 1]), ("0:4 fby (1:4 fby n)", [0, 1, 3, 1]),
                               ("(n fby 2:4) + (1:4 -> 2:4)", [0, 0, 0, 0]), ("0:4 fby y + n", [0, 3, 0, 2]),
                               ("1:4 -> 2:4 -> 3:4", [1, 3, 3, 3]), ("(1:4 -> 2:4) -> 3:4", [1, 3, 3, 3]),
                               ("1:4 fby 2:4 fby 3:4", [1, 2, 3, 3]), ("n -> pre (pre n -> n)", [3, None, None, None]),
                               ("if (3:4 fby n) = n then 1:4 -> pre n else 0:4", [1, 0, 0, 0]),
                               ("if x then pre n else n", [3, 1, 2, 0])):
            program = node(f"y = {text}", header=header)
            if None in expected:
                self.faults(program, rows, 1)
            else:
                self.assertEqual(one(program, rows), expected, text)

    def test_what_memories_hold(self):
        program = node("a = pre x", "b = pre a", "y = x", inner="a: bool, b: bool")
        state = beginning(program)
        for x, cells in ((T, ((T,), (None,))), (F, ((F,), (T,))), (T, ((T,), (F,)))):
            _, state = instant(program, state, (x, 0))
            self.same(state, (cells, ()))

    def test_both_parts_of_if_are_worked_out(self):
        program = node("y = if x then 0:9 fby y + 1:9 else 0:9 fby 5:9", header="node f(x: bool, n: mod 4) -> (y: mod 9)")
        self.assertEqual(one(program, ((F, 0), (T, 0), (F, 0), (T, 0))), [0, 1, 5, 6])

    def test_reading_twice(self):
        program = node("y = pre x xor pre x or x")
        self.faults(program, ((F, 0),), 0)
        program = node("y = (false -> pre x) and (true -> pre (not x))")
        self.assertEqual(one(program, ((T, 0), (T, 0), (F, 0))), [F, F, F])


class NilTest(MeaningTest):
    """[4.3], [4.5]"""

    rows = ((T, 1), (F, 2), (T, 3))

    def test_operators_hand_nil_on(self):
        for text, kind in (("not p", "bool"), ("p and x", "bool"), ("false and p", "bool"), ("x or p", "bool"),
                           ("p or true", "bool"), ("p xor p", "bool"), ("p = p", "bool"), ("x = p", "bool"),
                           ("p <> p", "bool"), ("q < n", "bool"), ("n < q", "bool"), ("q <= q", "bool"),
                           ("q + n", "mod 4"), ("n - q", "mod 4"), ("q * 0:4", "mod 4"), ("if p then n else n", "mod 4"),
                           ("if true then q else n", "mod 4"), ("if false then n else q", "mod 4"), ("p -> p", "bool"),
                           ("p fby x", "bool"), ("pre x", "bool"), ("q", "mod 4")):
            program = node("p = pre x", "q = pre n", f"z = {text}", "y = x", inner=f"p: bool, q: mod 4, z: {kind}")
            self.same(run(program, self.rows), (((T,), (F,), (T,)), None))
            told = shown(program, "z", self.rows)
            self.same(told[0], ("value", None))
            self.assertIsNotNone(told[1][1], text)

    def test_nil_that_is_not_chosen(self):
        for text in ("if x then n else q", "if not x then q else n", "n -> q", "n fby q", "if true then n else q"):
            program = node("p = pre x", "q = pre n", f"z = {text}", "y = x", inner="p: bool, q: mod 4, z: mod 4")
            self.same(shown(program, "z", self.rows)[0], ("value", 1))

    def test_nil_is_held(self):
        program = node("p = pre n", "q = 1:4 fby p", "r = 2:4 -> pre p", "y = x", inner="p: mod 4, q: mod 4, r: mod 4")
        self.same(tuple(shown(program, "q", self.rows)), (("value", 1), ("value", None), ("value", 1)))
        self.same(tuple(shown(program, "r", self.rows)), (("value", 2), ("value", None), ("value", 1)))

    def test_an_output_of_main(self):
        self.faults(node("y = pre x"), self.rows, 0)
        self.faults(node("y = x -> pre (pre x)"), self.rows, 1)
        self.faults(node("y = if n = 3:4 then a else x", "a = pre pre pre pre x", inner="a: bool"), self.rows, 2)
        program = node("y = x", "z = pre x", header="node f(x: bool, n: mod 4) -> (y: bool, z: bool)")
        self.faults(program, self.rows, 0)

    def test_outputs_of_other_nodes_may_have_nil(self):
        before = ("node g(x: bool) -> (y: bool)", "y = pre x", "end")
        self.assertEqual(one(node("a = g(x)", "y = x -> a", inner="a: bool", before=before), self.rows), [T, T, F])

    def test_what_tells_what_is_present(self):
        for line in ("z = n when p", "z = merge p (false -> 0:4) (true -> 1:4)", "z = 1:4 when not p",
                     "z = 0:4 -> (if x then n else merge p (false -> 0:4) (true -> 1:4))"):
            program = node("p = pre x", line, "y = x", inner="p: bool, z: mod 4")
            self.faults(program, self.rows, 0)
            program = node("p = true -> pre pre x", line, "y = x", inner="p: bool, z: mod 4")
            self.faults(program, self.rows, 1)
            program = node("p = true -> pre x", line, "y = x", inner="p: bool, z: mod 4")
            self.assertEqual(one(program, self.rows), [T, F, T])

    def test_a_sampler_of_a_number(self):
        program = node("p = if x then n else pre n", "z = merge p (0 -> 0:4) (1 -> n when p is 1) (2 -> 2:4) (3 -> 3:4)",
                       "y = x", inner="p: mod 4, z: mod 4")
        self.same(run(program, ((T, 1), (F, 2), (F, 0))), (((T,), (F,), (F,)), None))
        self.faults(program, ((F, 1), (F, 2)), 0)

    def test_an_absent_sampler_is_no_fault(self):
        program = node("a = pre (x when x)", "z = n when x when a", "y = x",
                       inner="a: bool, z: mod 4")
        self.same(run(program, ((F, 0), (F, 0))), (((F,), (F,)), None))
        self.faults(program, ((F, 0), (F, 0), (T, 0)), 2)

    def test_a_sampler_within_a_branch_that_is_absent(self):
        program = node("a = pre (n when x)", "y = merge x (false -> false) (true -> merge b (false -> true) (true -> false))",
                       "b = a = 1:4", inner="a: mod 4, b: bool")
        self.same(run(program, ((F, 0), (F, 0))), (((F,), (F,)), None))
        self.faults(program, ((F, 0), (T, 0)), 1)

    def test_resets(self):
        before = ("node g(x: bool) -> (y: bool)", "y = true fby x", "end")
        program = node("y = g(x) every pre x", before=before)
        self.faults(program, self.rows, 0)
        program = node("y = x", "z = g(x) every n = 3:4 and a", "a = x -> pre pre x", inner="z: bool, a: bool",
                       before=before)
        self.faults(program, self.rows, 1)
        program = node("y = x", "z = g(x when x) every p when x", "p = if n = 3:4 then pre pre pre pre x else x",
                       inner="z: bool, p: bool", before=before)
        self.faults(program, self.rows, 2)
        self.same(run(program, ((T, 1), (F, 3), (T, 2))), (((T,), (F,), (T,)), None))

    def test_faults_in_nodes_that_are_called(self):
        before = ("node g(x: bool, n: mod 4) -> (y: bool)", "var p: bool, z: mod 4", "p = if n = 2:4 then pre pre x else x",
                  "z = n when p", "y = x", "end", "node h(x: bool, n: mod 4) -> (y: bool)", "y = g(not x, n)", "end")
        self.faults(node("y = g(x, n)", before=before), self.rows, 1)
        self.faults(node("a = h(x, n)", "y = x", inner="a: bool", before=before), self.rows, 1)
        program = node("a = h(x when x, n when x)", "y = x", inner="a: bool", before=before)
        self.same(run(program, self.rows), (((T,), (F,), (T,)), None))
        self.faults(program, ((T, 1), (F, 2), (T, 2)), 2)

    def test_the_run_ends_with_the_first_fault(self):
        program = node("y = if x then true else pre pre x")
        self.same(run(program, ((T, 0), (F, 0), (T, 0), (T, 0))), (((T,),), 1))
        self.same(run(program, ((T, 0), (T, 0), (F, 0))), (((T,), (T,), (T,)), None))
        self.same(run(program, ()), ((), None))
        self.same(trace(program, ()), ())
        self.assertIsNone(instant(program, beginning(program), (F, 0)))


class ClocksTest(MeaningTest):
    """Absent variables, and memories on clocks."""

    def test_absent(self):
        program = node("a = n when x", "y = x", inner="a: mod 4")
        self.same(trace(program, ((T, 1), (F, 2))), (
            (("value", T), ("value", 1), ("value", T), ("value", 1)),
            (("value", F), ("value", 2), ("value", F), ("absent",))))

    def test_memories_stay_while_absent(self):
        program = node("a = 0:4 fby n when x", "y = merge x (false -> 3:4) (true -> a)",
                       header="node f(x: bool, n: mod 4) -> (y: mod 4)", inner="a: mod 4")
        rows = ((F, 1), (T, 2), (F, 3), (F, 0), (T, 1), (T, 2))
        self.assertEqual(one(program, rows), [3, 0, 3, 3, 2, 1])

    def test_memories_in_branches(self):
        program = node("y = merge x (false -> 0:4 fby n when not x) (true -> 3:4 fby n when x)",
                       header="node f(x: bool, n: mod 4) -> (y: mod 4)")
        rows = ((F, 1), (T, 2), (F, 3), (F, 0), (T, 1), (T, 2))
        self.assertEqual(one(program, rows), [0, 3, 1, 3, 2, 1])

    def test_numbers_and_sorts(self):
        program = read("sort E = A | B | C", "node f(e: E, n: mod 3) -> (y: mod 3)", "var a: mod 3, b: mod 3",
                       "a = n when e is B", "b = merge n (0 -> 2:3) (1 -> 1:3) (2 -> 0:3)",
                       "y = merge e (A -> b when e is A) (B -> a + 1:3) (C -> 0:3 fby b when e is C)", "end", "main f")
        rows = (("A", 0), ("B", 1), ("C", 1), ("C", 0), ("B", 2), ("A", 1), ("C", 2))
        self.assertEqual(one(program, rows), [2, 2, 0, 1, 0, 1, 2])
        self.same(tuple(shown(program, "a", rows))[:3], (("absent",), ("value", 1), ("absent",)))

    def test_clocks_in_clocks(self):
        program = node("a = n when x", "b = a = 1:4", "c = a when b", "d = 2:4 fby c",
                       "y = merge x (false -> 0:4) (true -> merge b (false -> 3:4) (true -> d))",
                       header="node f(x: bool, n: mod 4) -> (y: mod 4)", inner="a: mod 4, b: bool, c: mod 4, d: mod 4")
        rows = ((T, 1), (F, 1), (T, 0), (T, 1), (F, 0))
        self.assertEqual(one(program, rows), [2, 0, 3, 1, 0])
        self.same(tuple(shown(program, "b", rows)), (("value", T), ("absent",), ("value", F), ("value", T), ("absent",)))
        self.same(tuple(shown(program, "d", rows)), (("value", 2), ("absent",), ("absent",), ("value", 1), ("absent",)))

    def test_mod_two_is_not_bool(self):
        program = node("a = x when m is 1", "y = merge m (0 -> false) (1 -> a)",
                       header="node f(x: bool, m: mod 2) -> (y: bool)", inner="a: bool")
        self.assertEqual(one(program, ((T, 1), (T, 0))), [T, F])


COUNT = ("node count(up: bool) -> (k: mod 9)", "k = (0:9 fby k) + (if up then 1:9 else 0:9)", "end")


class CallsTest(MeaningTest):
    """[4.1], [4.4]"""

    header = "node f(x: bool, r: bool) -> (y: mod 9)"

    def test_each_call_has_an_instance(self):
        program = node("a = count(x)", "b = count(true)", "y = a + b", header=self.header, inner="a: mod 9, b: mod 9",
                       before=COUNT)
        self.assertEqual(one(program, ((T, F), (F, F), (T, F))), [2, 3, 5])

    def test_resets(self):
        program = node("y = count(x) every r", header=self.header, before=COUNT)
        self.assertEqual(one(program, ((T, F), (T, F), (T, T), (T, F), (F, T), (T, F))), [1, 2, 1, 2, 0, 1])
        program = node("y = count(x) every false -> pre r", header=self.header, before=COUNT)
        self.assertEqual(one(program, ((T, F), (T, T), (T, F), (T, F))), [1, 2, 1, 2])

    def test_resets_reach_inner_instances(self):
        before = COUNT + ("node twice(up: bool) -> (k: mod 9, l: mod 9)", "k = count(up)", "l = 1:9 -> pre l + k", "end")
        program = node("(a, b) = twice(x) every r", "y = a + b", header=self.header, inner="a: mod 9, b: mod 9",
                       before=before)
        self.assertEqual(one(program, ((T, F), (T, F), (T, T), (T, F))), [2, 5, 2, 5])

    def test_calls_on_clocks(self):
        program = node("a = count(x when r)", "y = merge r (false -> 8:9) (true -> a)", header=self.header,
                       inner="a: mod 9", before=COUNT)
        self.assertEqual(one(program, ((T, T), (T, F), (T, T), (F, F), (F, T), (T, T))), [1, 8, 2, 8, 2, 3])
        program = node("a = count(true) every x when r", "y = merge r (false -> 8:9) (true -> a)", header=self.header,
                       inner="a: mod 9", before=COUNT)
        self.assertEqual(one(program, ((F, T), (F, T), (T, F), (F, T), (T, T), (F, T))), [1, 2, 8, 3, 1, 2])

    def test_the_state_of_an_instance_that_is_not_active(self):
        program = node("a = count(x when r)", "y = merge r (false -> 8:9) (true -> a)", header=self.header,
                       inner="a: mod 9", before=COUNT)
        _, state = instant(program, beginning(program), (T, F))
        self.same(state, beginning(program))
        _, state = instant(program, state, (T, T))
        self.same(state, ((), ((((1,),), ()),)))
        self.same(instant(program, state, (T, F))[1], state)

    def test_several_outputs_and_no_inputs(self):
        before = ("node g() -> (a: mod 9, b: bool)", "a = 0:9 fby a + 2:9", "b = a < 3:9", "end")
        program = node("(p, q) = g()", "(s, t) = g() every x", "y = if q and t then p + s else p", header=self.header,
                       inner="p: mod 9, q: bool, s: mod 9, t: bool", before=before)
        self.assertEqual(one(program, ((F, F), (F, F), (T, F), (F, F))), [0, 4, 4, 6])

    def test_any_node_may_be_main(self):
        lines = COUNT + ("node g(x: bool) -> (k: mod 9)", "k = count(not x)", "end")
        rows = ((T,), (F,), (F,))
        self.assertEqual(one(read(*lines, "main count"), rows), [1, 1, 1])
        self.assertEqual(one(read(*lines, "main g"), rows), [0, 1, 2])


class OrderTest(MeaningTest):
    def test_equations_in_any_order(self):
        for seed in range(60):
            maker = Righting(seed, nil=0.2)
            program = maker.program(2)
            rows = maker.rows(program, 5)
            sorts, nodes, main = program
            chooser = random.Random(seed)
            other = (sorts, tuple(row[:4] + (tuple(chooser.sample(row[4], len(row[4]))),) for row in nodes), main)
            self.same(run(other, rows), run(program, rows))
            self.same(trace(other, rows), trace(program, rows))

    def test_long_chains(self):
        inner = [f"v{k}" for k in range(20)]
        lines = ["v0 = n"] + [f"v{k} = v{k - 1} + 1:4" for k in range(1, 20)] + ["y = v19 = n"]
        for rows in (lines, lines[::-1]):
            program = node(*rows, inner=", ".join(f"{x}: mod 4" for x in inner))
            self.assertEqual(one(program, ((T, 1), (T, 2))), [F, F])


class RandomTest(MeaningTest):
    def test_against_the_oracle(self):
        ends = {True: 0, False: 0}
        for seed in range(220):
            maker = Righting(seed, nil=(0, 0.1, 0.5, 1)[seed % 4])
            program = maker.program(1 + seed % 4)
            rows = maker.rows(program, 6)
            self.same(run(program, rows), oracle.run(program, rows))
            self.same(trace(program, rows), oracle.trace(program, rows))
            state = beginning(program)
            self.same(state, oracle.beginning_of(program, program[2]))
            for row in rows:
                told = instant(program, state, row)
                self.same(told, oracle.instant(program, state, row))
                if told is None:
                    break
                self.assertIs(is_state(program, told[1]), True)
                state = told[1]
            ends[run(program, rows)[1] is None] += 1
        self.assertGreater(min(ends.values()), 20)

    def test_states_that_cannot_be_reached(self):
        for seed in range(20):
            maker = Righting(seed, nil=0.3)
            program = maker.program(1 + seed % 3)
            state = beginning(program)
            for row in maker.rows(program, 4):
                told = instant(program, state, row)
                state = told[1] if told is not None else state
                cells = [path for path in paths(state) if path and path[-2:-1] == (0,) and len(path) % 2 == 0]
                for path in cells:
                    for value in ((), (None,)):
                        odd = replaced(state, path, value)
                        if is_state(program, odd):
                            self.same(instant(program, odd, row), oracle.instant(program, odd, row))

    def test_nothing_is_kept(self):
        maker = Righting(8)
        program = maker.program(3)
        rows = maker.rows(program, 6)
        first = run(program, rows)
        run(program, rows[::-1])
        self.same(run(program, rows), first)


class ConsequencesTest(MeaningTest):
    """[4.8]"""

    def wrapped(self, program, clocked=False):
        """A program that calls main with a reset r, or on the clock c, with the same outputs."""
        sorts, nodes, main = program
        _, inputs, outputs, _, _ = [row for row in nodes if row[0] == main][0]
        names = tuple(x for x, _ in outputs)
        if not clocked:
            right = ("call", main, tuple(("var", x) for x, _ in inputs), ("var", "r"))
            top = ("top", inputs + (("r", "bool"),), outputs, (), ((names, right),))
            return (sorts, nodes + (top,), "top")
        inner = tuple((f"o{k}", kind) for k, (_, kind) in enumerate(outputs))
        right = ("call", main, tuple(("when", ("var", x), "c", True) for x, _ in inputs), None)
        body = [(tuple(x for x, _ in inner), right)]
        for (x, kind), (o, _) in zip(outputs, inner):
            branches = ((False, ("const", values(kind)[0], kind)), (True, ("var", o)))
            body.append(((x,), ("merge", "c", branches)))
        return (sorts, nodes + (("top", inputs + (("c", "bool"),), outputs, inner, tuple(body)),), "top")

    def test_outputs_hang_on_no_later_rows(self):
        for seed in range(50):
            maker = Righting(seed, nil=0.2)
            program = maker.program(2)
            rows = maker.rows(program, 6)
            others = maker.rows(program, 6)
            whole = run(program, rows)[0]
            for k in range(6):
                self.same(run(program, rows[:k])[0], whole[:k])
                self.same(run(program, rows[:k] + others)[0][:k], whole[:k])

    def test_a_reset_begins_anew(self):
        for seed in range(50):
            maker = Righting(seed, nil=0.05)
            program = maker.program(1 + seed % 3)
            top = self.wrapped(program)
            self.assertTrue(is_right(top))
            rows = maker.rows(program, 7)
            resets = tuple(maker.random.random() < 0.4 for _ in rows)
            cuts = [k for k in range(1, 7) if resets[k]] + [7]
            expected, fault, begin = (), None, 0
            for end in cuts:
                outputs, at = run(program, rows[begin:end])
                expected += outputs
                if at is not None:
                    fault = begin + at
                    break
                begin = end
            self.same(run(top, tuple(row + (r,) for row, r in zip(rows, resets))), (expected, fault))

    def test_a_reset_at_every_instant(self):
        for seed in range(30):
            maker = Righting(seed, nil=0.05)
            program = maker.program(2)
            rows = maker.rows(program, 5)
            outputs, _ = run(self.wrapped(program), tuple(row + (True,) for row in rows))
            for row, told in zip(rows, outputs):
                self.same(run(program, (row,)), ((told,), None))

    def test_a_call_on_a_clock(self):
        for seed in range(50):
            maker = Righting(seed, nil=0.05)
            program = maker.program(1 + seed % 3)
            top = self.wrapped(program, clocked=True)
            self.assertTrue(is_right(top))
            rows = maker.rows(program, 7)
            active = [maker.random.random() < 0.6 for _ in rows]
            outputs, fault = run(program, tuple(row for row, c in zip(rows, active) if c))
            found, at = run(top, tuple(row + (c,) for row, c in zip(rows, active)))
            places = [k for k in range(7) if active[k]]
            self.assertEqual(at, None if fault is None else places[fault])
            self.same(tuple(row for row, c in zip(found, active) if c), outputs)

    def test_repeated_instants_give_the_run(self):
        for seed in range(30):
            maker = Righting(seed, nil=0.2)
            program = maker.program(2)
            rows = maker.rows(program, 5)
            state, found, fault = beginning(program), (), None
            for k, row in enumerate(rows):
                told = instant(program, state, row)
                if told is None:
                    fault = k
                    break
                found, state = found + (told[0],), told[1]
            self.same(run(program, rows), (found, fault))
