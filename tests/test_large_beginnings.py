"""[4.2], [8.4], [9.3], [10.3], [10.4], [11.3] to [11.6]: beginnings with very many instances in them.

How many there are makes no difference, as long as there are few different ones: what is asked needs little memory.
"""

import resource
import unittest

from everytick.checker import check, is_sound
from everytick.claims import is_break, is_closed, verdict
from everytick.direct import run_direct
from everytick.equality import same_programs
from everytick.holding import Pool
from everytick.induction import least_induction
from everytick.machines import first_fault, machine_of
from everytick.meaning import beginning, instant, run, trace
from everytick.program_texts import read_program
from everytick.sessions import Session
from everytick.steps import first_memory, is_step_machine, run_steps, step
from tests.samples import ODD_VALUES, nested_value, same
from tests.test_claims import read

T, F = True, False
ROOM = 2 << 30
KEPT = resource.getrlimit(resource.RLIMIT_AS)
LAST_STATES = ((((T,),), ()), (((None,),), ()), ((((),),), ()))


def setUpModule():
    resource.setrlimit(resource.RLIMIT_AS, (ROOM, KEPT[1]))


def tearDownModule():
    resource.setrlimit(resource.RLIMIT_AS, KEPT)


def tower(first, count, calls=20, inputs=""):
    """A program of so many nodes, each of which calls the one before it so many times with the same inputs."""
    args = ", ".join(part.split(":")[0] for part in inputs.split(", "))
    lines = [f"node n0({inputs}) -> (y: bool)", *first, "end"]
    for k in range(1, count):
        names = [f"a{j}" for j in range(calls - 1)]
        declared = ", ".join(f"{name}: bool" for name in names)
        lines += [f"node n{k}({inputs}) -> (y: bool)", f"var {declared}"]
        lines += [f"{name} = n{k - 1}({args})" for name in [*names, "y"]] + ["end"]
    return read(*lines, f"main n{count - 1}")


def watch(tree):
    """A claim about the outputs of a tower without inputs."""
    return ("watch", (("y", "bool"),), (("ok", "bool"),), (), ((("ok",), tree),))


def stack(count, *second):
    """A step machine of so many classes that gives its last input, and each class of which calls two of the one before.

    The statements of second take the place of the call of the second part.
    """
    classes = [("c0", ("x",), ("y",), (F,), (), (("set", "y", ("cell", 0)), ("store", 0, ("var", "x"))))]
    second = second or (("call", ("y",), 1, (("var", "x"),), None),)
    for k in range(1, count):
        body = (("call", ("z",), 0, (("var", "x"),), None), *second)
        classes.append((f"c{k}", ("x",), ("y",), (), (k - 1, k - 1), body))
    return tuple(classes)


ONE = tower(["y = false fby true"], 10)
LATE = read("node late(x: bool) -> (y: bool)", "y = false fby x", "end", "main late")
LATES = tower(["y = false fby x"], 10, inputs="x: bool")
# Faults at the second instant.
NILS = tower(["var a: bool", "a = pre true", "y = true fby a"], 10)
EVER = watch(("or", ("var", "y"), ("not", ("var", "y"))))
NEVER = watch(("not", ("var", "y")))
LARGE = (("sound", ONE), ("holds", ONE, EVER), ("same", ONE, ONE), ("carries", LATE, stack(60)))
OPPOSITE = {"sound": "fault", "holds": "breaks", "same": "apart", "carries": "strays"}


class SmallCertificateTest(unittest.TestCase):
    """[10.4], [11.3] to [11.6]: small values are no certificates of what is closed."""

    def test_values_without_the_beginning(self):
        small = [(), ((),), ((), ()), (((), ()),), ((((),), ()),), (0,), (T,), ("",), *ODD_VALUES, nested_value(100)]
        small += [(state,) for state in LAST_STATES] + [(((), (state,) * 20),) for state in LAST_STATES]
        small += [((state, state),) for state in LAST_STATES]
        for statement in LARGE:
            self.assertIs(is_sound(statement), T)
            for value in small:
                self.assertIs(check(statement, value), F, (statement[0], value))
        for value in small:
            self.assertIs(is_closed(ONE, EVER, value), F, value)

    def test_a_beginning_of_which_one_part_is_missing(self):
        """It is as large as the beginning, but the first instance in it is none."""
        state = ((), ())
        memory = ((), ())
        for _ in range(60):
            memory = ((), (memory, memory))
        for _ in range(9):
            state = ((), (state,) * 20)
        self.assertIs(check(("sound", ONE), (state,)), F)
        self.assertIs(check(("same", ONE, ONE), ((state, state),)), F)
        self.assertIs(check(("carries", LATE, stack(60)), ((beginning(LATE), memory),)), F)

    def test_right_ones_of_some_size(self):
        """Programs and machines of the same kind which are small enough to go through their certificates."""
        one = tower(["y = false fby true"], 4)
        word, states = verdict(one, EVER, 10)
        self.assertEqual((word, len(states)), ("holds", 2))
        self.assertIs(is_closed(one, EVER, states), T)
        self.assertIs(check(("holds", one, EVER), states), T)
        for k in range(2):
            self.assertIs(check(("holds", one, EVER), states[k:k + 1]), F)
        self.assertIs(check(("holds", one, EVER), states + states[:1]), F)
        self.assertIs(check(("holds", one, NEVER), states), F)
        first, (_, second) = beginning(one), instant(one, beginning(one), ())
        self.assertIs(check(("sound", one), (first, second)), T)
        self.assertIs(check(("same", one, one), ((second, second), (first, first))), T)
        self.assertIs(check(("same", one, one), ((second, second), (first, second), (first, first))), F)
        pairs = ((F, first_memory(stack(12))), (F, step(stack(12), first_memory(stack(12)), (F,))[1]),
                 (T, step(stack(12), first_memory(stack(12)), (T,))[1]))
        pairs = tuple(((((value,),), ()), memory) for value, memory in pairs)[1:] + ((beginning(LATE), pairs[0][1]),)
        self.assertIs(check(("carries", LATE, stack(12)), pairs), T)
        self.assertIs(check(("carries", LATE, stack(12)), pairs[1:]), F)


class SmallBreakTest(unittest.TestCase):
    """[10.3], [11.3] to [11.6]: short rows of inputs as certificates."""

    def test_none_of_them_is_right(self):
        for statement in LARGE:
            word = OPPOSITE[statement[0]]
            for row in ((), (T,)):
                self.assertIs(check((word, *statement[1:]), (row,)), F, word)
                self.assertIs(check((word, *statement[1:]), (row, row, row)), F, word)
            self.assertIs(check((word, *statement[1:]), ()), F, word)
        self.assertIs(is_break(ONE, EVER, ((),)), F)
        self.assertIs(is_break(ONE, EVER, ((), ())), F)

    def right(self, statement, *rows):
        """A certificate that is right, and is not without its last row."""
        self.assertIs(is_sound(statement), T)
        self.assertIs(check(statement, rows), T)
        self.assertIs(check(statement, rows[:-1]), F)
        self.assertIs(check(statement, rows + rows), F)

    def test_right_ones(self):
        self.right(("fault", NILS), (), ())
        self.right(("breaks", ONE, NEVER), (), ())
        self.assertIs(is_break(ONE, NEVER, ((), ())), T)
        self.assertIs(is_break(ONE, NEVER, ((),)), F)
        self.right(("apart", ONE, NILS), ())
        self.right(("apart", NILS, tower(["y = true"], 3)), (), ())
        self.right(("apart", LATE, tower(["y = false fby false fby x"], 10, inputs="x: bool")), (T,), (F,))
        self.right(("strays", LATE, stack(60, ("set", "y", ("const", F)))), (T,), (F,))
        twice = stack(60, ("call", ("y",), 1, (("var", "z"),), None))
        self.assertIs(check(("strays", LATE, twice[:1]), ((T,), (F,))), F)
        self.right(("strays", LATE, twice[:2]), (T,), (F,))
        self.right(("strays", LATE, twice), (T,), (F,))


class LargeProgramTest(unittest.TestCase):
    """[4.7], [9.3], [10.4], [12.4]: what large programs do."""

    def test_runs(self):
        self.assertEqual(run(ONE, ((),) * 3), (((F,), (T,), (T,)), None))
        self.assertEqual(run(NILS, ((),) * 3), (((T,),), 1))
        self.assertEqual(run_direct(NILS, ((),) * 3), (((T,),), 1))
        self.assertEqual(trace(ONE, ((), ())), ((("value", F),) * 20, (("value", T),) * 20))
        self.assertEqual(run(LATES, ((T,), (F,), (F,))), (((F,), (T,), (F,)), None))
        self.assertEqual(run_steps(stack(60), ((T,), (F,), (F,))), ((F,), (T,), (F,)))

    def test_finite_machines(self):
        self.assertEqual(machine_of(ONE, 2), (((),), ((((F,), 1),), (((T,), 1),))))
        self.assertEqual(first_fault(machine_of(NILS, 2)), (0, 0))
        self.assertEqual(len(machine_of(LATES, 9)[1]), 3)
        self.assertEqual(same_programs(LATE, LATES, 9), ("same", ((0, 0), (1, 1), (2, 2))))
        self.assertEqual(same_programs(ONE, NILS, 9), ("apart", ((),)))
        self.assertEqual(verdict(ONE, NEVER, 9), ("broken", ((), ())))
        word, states = verdict(ONE, EVER, 9)
        self.assertEqual((word, len(states)), ("holds", 2))

    def test_a_session(self):
        session = Session(ONE)
        lines = (("run  ;  ; ", ["bad"]), ("run - ; - ; -", ["false", "true", "true"]), ("machine 2", ["states 2"]),
                 ("machine 1", ["many"]), ("sound 2", ["sound"]), ("same n1 9", ["same 2"]),
                 ("claim 9 node ok(y: bool) -> (z: bool);z = not y;end", ["breaks - ; -"]),
                 ("claim 9 node ok(y: bool) -> (z: bool);z = false -> y;z = y;end", ["bad"]))
        for line, answer in lines:
            self.assertEqual(session.enter(line), answer, line)

    def test_induction(self):
        one = tower(["y = false fby true"], 2, 3)
        # A memory that holds None gives nil once, and never again.
        self.assertEqual(least_induction(one, EVER, 3), 1)
        self.assertEqual(least_induction(one, NEVER, 3), None)

    def test_a_state_is_gone_through_only_where_it_is_active(self):
        """[4.1], [4.4]: of a tree of calls on clocks one branch is active at each instant."""
        lines = ["node n0(x: mod 32) -> (y: mod 32)", "y = 0:32 fby x", "end"]
        names = [f"a{j}" for j in range(20)]
        for k in range(1, 12):
            lines += [f"node n{k}(x: mod 32) -> (y: mod 32)", "var e: mod 32, " + ", ".join(f"{a}: mod 32" for a in names), "e = x"]
            lines += [f"{a} = n{k - 1}(x when e is {j})" for j, a in enumerate(names)]
            lines += ["y = merge e " + " ".join(f"({j} -> {f'a{j}' if j < 20 else f'0:32 when e is {j}'})" for j in range(32)), "end"]
        program = read_program("\n".join(lines + ["main n11"]))
        outputs, state = instant(program, beginning(program), (7,))
        self.assertEqual(outputs, (0,))
        for _ in range(11):
            state = state[1][7]
        self.assertEqual(state, (((7,),), ()))
        self.assertEqual(run(program, ((7,), (7,), (8,), (8,), (7,))), (((0,), (7,), (0,), (8,), (7,)), None))

    def test_a_memory_is_gone_through_only_where_it_is_called(self):
        value = stack(60, ("set", "y", ("var", "z")))
        memory = first_memory(value)
        for x, y in ((T, F), (F, T), (F, F)):
            outputs, memory = step(value, memory, (x,))
            self.assertEqual(outputs, (y,))


class DifferentInstanceTest(unittest.TestCase):
    """[4.4], [8.3], [8.4]: instances that hold the same, or get the same, and yet are not alike."""

    def test_other_inputs_and_other_states(self):
        program = read("node late(x: bool) -> (y: bool)", "y = false fby x", "end",
                       "node f(x: bool, r: bool) -> (a: bool, b: bool, c: bool, d: bool)",
                       "a = late(x)", "b = late(not x)", "c = late(x) every r", "d = late(b)", "end", "main f")
        rows = ((T, F), (T, F), (F, T), (T, F), (F, F))
        told = ((F, F, F, F), (T, F, T, F), (T, F, F, F), (F, T, F, F), (T, F, T, T))
        self.assertEqual(run(program, rows), (told, None))

    def test_other_nodes_with_the_same_state(self):
        program = read("node late(x: bool) -> (y: bool)", "y = false fby x", "end",
                       "node early(x: bool) -> (y: bool)", "y = true fby not x", "end",
                       "node f(x: bool) -> (a: bool, b: bool)", "a = late(x)", "b = early(x)", "end", "main f")
        self.assertEqual(run(program, ((T,), (T,), (F,))), (((F, T), (T, F), (T, F)), None))
        self.assertEqual(run_direct(program, ((T,), (T,), (F,))), (((F, T), (T, F), (T, F)), None))

    def test_blocks_with_the_same_state(self):
        program = read("node f(x: bool) -> (y: bool, z: bool)", "states", "state A", "y = false fby x", "until x then B",
                       "state B", "y = true fby x", "until not x continue A", "end",
                       "states", "state A", "z = false fby x", "until x then B", "state B", "z = true fby not x", "end",
                       "end", "main f")
        rows = ((T,), (T,), (F,), (F,), (T,), (F,))
        self.assertEqual(run_direct(program, rows)[0], ((F, F), (T, T), (T, F), (T, T), (F, T), (T, F)))

    def test_true_is_not_1(self):
        echo = ("echo", ("x",), ("y", "z"), (0,), (), (
            ("set", "y", ("eq", ("var", "x"), ("const", T))), ("set", "z", ("cell", 0)), ("store", 0, ("var", "x"))))
        pair = ("pair", (), ("a", "b", "c", "d"), (), (0, 0), (
            ("call", ("a", "b"), 0, (("const", T),), None), ("call", ("c", "d"), 1, (("const", 1),), None)))
        self.assertIs(is_step_machine((echo, pair)), T)
        self.assertTrue(same(run_steps((echo, pair), ((), ())), ((T, 0, F, 0), (T, T, F, 1))))
        memory = step((echo, pair), first_memory((echo, pair)), ())[1]
        self.assertTrue(same(memory, ((), (((T,), ()), ((1,), ())))))
        # What the first part holds is True and 1 by turns, what the second one holds is 1 and True.
        turn = ("set", "n", ("if", ("eq", ("cell", 0), ("const", T)), ("const", 1), ("const", T)))
        turner = ("turner", (), ("n",), (T,), (), (turn, ("store", 0, ("var", "n"))))
        both = ("both", (), ("n", "m"), (), (0, 0, 0), (
            ("call", ("n",), 0, (), None), ("call", ("m",), 1, (), None), ("call", ("m",), 1, (), None)))
        self.assertTrue(same(run_steps((turner, both), ((),) * 3), ((1, T), (T, T), (1, T))))

    def test_true_is_not_1_in_certificates(self):
        program = read("node f(x: bool) -> (y: bool)", "y = x", "end", "main f")
        keeper = ("keeper", ("x",), ("y",), (T,), (), (("set", "y", ("var", "x")),))
        machine = (keeper, ("main", ("x",), ("y",), (), (0,), (("call", ("y",), 0, (("var", "x"),), None),)))
        state = beginning(program)
        start, other = (state, ((), (((T,), ()),))), (state, ((), (((1,), ()),)))
        self.assertIs(check(("carries", program, machine), (start,)), T)
        self.assertIs(check(("carries", program, machine), (start, other)), T)
        self.assertIs(check(("carries", program, machine), (start, start)), F)
        self.assertIs(check(("carries", program, machine), (other,)), F)


class PoolTest(unittest.TestCase):
    """What is held is one object exactly if it is the same value."""

    def test_one_object_for_equal_ones(self):
        leaf = Pool([])
        pool = Pool([leaf, leaf])
        values = [(T,), (1,), (F,), (0,), (None,), ("",), (), ((),), ((T,),), ((1,),), (T, 1), (1, T)]
        for one in values:
            for other in values:
                first, second = leaf.entered((one, ())), leaf.held_of(other, ())
                self.assertIs(first is second, same(one, other), (one, other))
                first, second = pool.entered(((), ((one, ()), (other, ())))), pool.held_of((), (first, second))
                self.assertIs(first, second)
                self.assertTrue(same(first.tree, ((), ((one, ()), (other, ())))))
        self.assertIsNot(leaf.held_of((), ()), pool.held_of((), (leaf.held_of((), ()),) * 2))

    def test_objects_that_are_opened(self):
        leaf = Pool([])
        pool = Pool([leaf, leaf])
        tree = ((T,), (((1,), ()), ((2,), ())))
        held = pool.opened(tree)
        self.assertEqual((held.cells, held.parts, held.tree), ((T,), None, tree))
        first, second = pool.inner_of(held)
        self.assertEqual((first.cells, second.cells), ((1,), (2,)))
        self.assertEqual(pool.inner_of(held), (first, second))
        self.assertEqual(pool.inner_of(pool.entered(tree)), (leaf.entered(((1,), ())), leaf.entered(((2,), ()))))


if __name__ == "__main__":
    unittest.main()
