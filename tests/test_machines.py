"""[9.1] to [9.4]: all input rows, machines, machines of programs, first faults."""

import unittest

from everytick.errors import TooMany
from everytick.machines import MAX_ROWS, first_fault, input_rows, is_machine, machine_of, run_machine
from everytick.meaning import run
from everytick.program_texts import read_program
from everytick.states import translated
from tests import finite_oracle as oracle
from tests.finite_oracle import random_machine
from tests.righting import Righting
from tests.samples import ODD_VALUES, nested_value, same
from tests.test_any_value import spoilt_plainly
from tests.test_making import program_of

T, F = True, False
LATE = read_program("node late(x: bool) -> (y: bool)\ny = false fby x\nend\nmain late")


def one(inputs, *lines, sorts=""):
    return read_program("\n".join([sorts, f"node f({inputs}) -> (y: bool)", *lines, "end", "main f"]))


def counter(modulus, *lines):
    """A program that goes through so many states."""
    return read_program(f"node f(up: bool) -> (n: mod {modulus})\nn = 0:{modulus} -> pre (n + (if up then 1:{modulus} else 0:{modulus}))\n"
                        "end\nmain f")


class InputRowsTest(unittest.TestCase):
    """[9.1]"""

    def test_order(self):
        rows = input_rows(one("a: bool, n: mod 3", "y = a"))
        self.assertTrue(same(rows, ((F, 0), (F, 1), (F, 2), (T, 0), (T, 1), (T, 2))))
        rows = input_rows(one("n: mod 2, e: E", "y = true", sorts="sort E = Z | A | M"))
        self.assertTrue(same(rows, ((0, "Z"), (0, "A"), (0, "M"), (1, "Z"), (1, "A"), (1, "M"))))
        rows = input_rows(one("a: bool, b: bool, c: bool", "y = a"))
        self.assertEqual(rows, ((F, F, F), (F, F, T), (F, T, F), (F, T, T), (T, F, F), (T, F, T), (T, T, F), (T, T, T)))

    def test_no_inputs(self):
        self.assertEqual(input_rows(one("", "y = true")), ((),))

    def test_256_rows_and_more(self):
        self.assertEqual(MAX_ROWS, 256)
        eight = ", ".join(f"a{k}: bool" for k in range(8))
        for inputs in (eight, "n: mod 32, m: mod 8", "n: mod 16, m: mod 16"):
            self.assertEqual(len(input_rows(one(inputs, "y = true"))), 256)
            self.assertEqual(len(machine_of(one(inputs, "y = true"), 1)[0]), 256)
        for inputs in (eight + ", b: bool", "n: mod 32, m: mod 9", "n: mod 3, m: mod 3, k: mod 29",
                       ", ".join(f"a{k}: mod 32" for k in range(23))):
            with self.assertRaises(TooMany):
                input_rows(one(inputs, "y = true"))
            with self.assertRaises(TooMany):
                machine_of(one(inputs, "y = true"), 1000000)
        self.assertEqual(len(input_rows(one("n: mod 3, m: mod 5, k: mod 17", "y = true"))), 255)

    def test_only_the_inputs_of_main_count(self):
        value = read_program("node g(n: mod 32, m: mod 32) -> (y: bool)\ny = n = m\nend\nnode f(n: mod 2) -> (y: bool)\n"
                             "y = g(0:32, 1:32)\nend\nmain f")
        self.assertTrue(same(input_rows(value), ((0,), (1,))))

    def test_second_reckoning(self):
        for seed in range(30):
            value = Righting(seed).program(2)
            self.assertTrue(same(input_rows(value), oracle.rows_of(value)))


class MachineOfTest(unittest.TestCase):
    """[9.2], [9.3]"""

    def test_example(self):
        self.assertTrue(same(machine_of(LATE, 10), (((F,), (T,)), (
            (((F,), 1), ((F,), 2)), (((F,), 1), ((F,), 2)), (((T,), 1), ((T,), 2))))))

    def test_states_are_numbered_as_they_are_come_to(self):
        value = read_program("node f(n: mod 4) -> (y: mod 4)\ny = 3:4 -> pre (n + n)\nend\nmain f")
        machine = machine_of(value, 10)
        # From 0 the rows 0, 1, 2, 3 lead to the doubles 0, 2, 0, 2; doubles are met in this order.
        self.assertEqual([[entry[1] for entry in entries] for entries in machine[1]], [[1, 2, 1, 2]] * 3)
        self.assertEqual([entries[0][0] for entries in machine[1]], [(3,), (0,), (2,)])

    def test_exactly_as_many_states_as_the_limit(self):
        for value, many in ((LATE, 3), (counter(32), 33), (one("", "y = true"), 1), (one("", "y = true fby false"), 2)):
            self.assertEqual(len(machine_of(value, many)[1]), many)
            self.assertEqual(machine_of(value, many), machine_of(value, 1000))
            with self.assertRaises(TooMany):
                machine_of(value, many - 1)

    def test_no_inputs(self):
        value = read_program("node f() -> (n: mod 3)\nn = 0:3 -> pre n + 1:3\nend\nmain f")
        self.assertTrue(same(machine_of(value, 10), (((),), ((((0,), 1),), (((1,), 2),), (((2,), 3),), (((0,), 1),)))))

    def test_faults(self):
        value = one("x: bool", "y = if x then pre x else true")
        self.assertTrue(same(machine_of(value, 10), (((F,), (T,)), (
            (((T,), 1), None), (((T,), 1), ((F,), 2)), (((T,), 1), ((T,), 2))))))
        self.assertEqual(machine_of(one("x: bool", "y = pre x"), 1), (((F,), (T,)), ((None, None),)))

    def test_states_behind_a_fault_alone_are_not_reached(self):
        value = read_program("node f(x: bool) -> (y: bool, n: mod 8)\ny = if x then pre true else true\n"
                             "n = if x then 1:8 else 0:8 fby n\nend\nmain f")
        self.assertEqual(machine_of(value, 50)[1][0][1], None)
        self.assertTrue(is_machine(machine_of(value, 50)))

    def test_nodes_that_main_does_not_need_do_not_matter(self):
        text = "node late(x: bool) -> (y: bool)\ny = false fby x\nend\n"
        other = read_program("node g(n: mod 32) -> (m: mod 32)\nm = 0:32 fby n\nend\n" + text + "main late")
        self.assertEqual(machine_of(other, 3), machine_of(LATE, 3))

    def test_calls_clocks_and_resets(self):
        value = read_program(
            "node count(up: bool) -> (n: mod 4)\nn = 0:4 -> pre (n + (if up then 1:4 else 0:4))\nend\n"
            "node f(c: bool) -> (n: mod 4)\nvar a: mod 4\na = count(true when c) every (false when c -> pre a = 2:4)\n"
            "n = merge c (false -> 0:4) (true -> a)\nend\nmain f")
        machine = machine_of(value, 100)
        states, table = oracle.explored(value)
        self.assertTrue(same(machine, (oracle.rows_of(value), table)))

    def test_second_reckoning(self):
        done = 0
        for seed in range(90):
            value = program_of(seed)
            try:
                machine = machine_of(value, 25)
            except TooMany:
                continue
            if len(machine[0]) > 30:
                continue
            done += 1
            self.assertTrue(same(machine, (oracle.rows_of(value), oracle.explored(value)[1])), seed)
            self.assertTrue(is_machine(machine))
            with self.assertRaises(TooMany):
                machine_of(value, len(machine[1]) - 1)
        self.assertGreater(done, 40)

    def test_translations(self):
        value = read_program("node f(x: bool) -> (y: bool)\nstates\nstate A\ny = true\nuntil x then B\nstate B\ny = false -> x\n"
                             "until x then A\nend\nend\nmain f")
        machine = machine_of(translated(value), 100)
        self.assertTrue(is_machine(machine))
        for rows in ((0, 1, 0, 1, 1), (1, 0, 0, 1, 0)):
            self.assertEqual(run_machine(machine, rows), run(translated(value), tuple(machine[0][r] for r in rows)))


class IsMachineTest(unittest.TestCase):
    """[9.2] for any value."""

    def good(self, value):
        self.assertIs(is_machine(value), True, value)
        self.assertTrue(oracle.is_machine(value))

    def bad(self, *values):
        for value in values:
            self.assertIs(is_machine(value), False, value)
            self.assertFalse(oracle.is_machine(value))

    def test_good_machines(self):
        self.good((((),), (((((), 0)),),)))
        self.good((((),), ((None,),)))
        self.good((((1,), (T,), (0,), (F,), ("1",)), ((None,) * 5,)))
        self.good((((1, "A", None, ((2,),)), ()), ((((None, ("x",)), 1), None), (None, ((), 0)))))
        self.good((((0,), (1,)), ((((), 1), ((), 2)), (None, None), (((), 0), ((), 1)))))

    def test_other_values(self):
        self.bad(*ODD_VALUES)
        self.bad(nested_value(100), (((),),), ((), ((),)), (((),), ()), (((),), ((),)), ((), ()), (((),), ((None,),), ()))

    def test_rows(self):
        for rows in ((1,), ("a",), (None,), ((), 1), [()], ((1,), (1,)), ((T,), (0,), (T,)), (((1,),), ((1,),)), "ab"):
            self.bad((rows, ((None,) * max(1, len(rows)),)))
        self.good((((1,), (T,)), ((None, None),)))
        self.good(((((1,),), ((T,),)), ((None, None),)))

    def test_tables(self):
        rows = ((0,), (1,))
        for table in (((None,),), ((None, None, None),), ((),), (None,), ([None, None],), ((None, None), (None,)), "ab", None,
                      ((None, 1),), ((None, ()),), ((None, ((),)),), ((None, ((), 0, 0)),), ((None, (1, 0)),), ((None, ("", 0)),),
                      ((None, (None, 0)),), ((None, ([], 0)),), ((None, ((), F)),), ((None, ((), 1)),), ((None, ((), -1)),),
                      ((None, ((), "0")),), ((None, ((), None)),), ((None, ((), ())),)):
            self.bad((rows, table))

    def test_numbers_of_states(self):
        rows = ((0,), (1,))
        self.bad((rows, ((None, None), (None, None))))
        self.bad((rows, ((None, ((), 2)), (None, ((), 0)), (None, ((), 1)))))
        self.bad((rows, ((((), 2), ((), 1)), (None, None), (None, None))))
        self.bad((rows, ((((), 1), None), (None, ((), 1)), (((), 0), ((), 2)))))
        self.bad((rows, ((((), 0), ((), 0)), (((), 1), ((), 0)))))
        self.bad((((0,),), ((((), 1),), (((), 3),), (((), 2),), (((), 2),))))

    def test_true_as_the_number_of_a_state(self):
        self.bad((((0,),), ((((), T),), (((), 0),))))
        self.good((((0,),), ((((), 1),), (((), 0),))))

    def test_spoilt_machines(self):
        machine = machine_of(one("x: bool", "y = if x then pre x else true"), 10)
        for value in spoilt_plainly(machine):
            self.assertIs(is_machine(value), oracle.is_machine(value), value)

    def test_random_machines(self):
        for seed in range(100):
            machine = random_machine(seed)
            self.good(machine)
            if len(machine[1]) > 2:
                turned = (machine[0], machine[1][:1] + machine[1][:0:-1])
                self.assertIs(is_machine(turned), oracle.is_machine(turned))


class RunsTest(unittest.TestCase):
    """Runs of machines, and [9.4]: first faults."""

    def test_runs(self):
        machine = (((0,), (1,)), ((((5,), 1), None), (((T,), 0), ((1,), 1))))
        self.assertTrue(same(run_machine(machine, ()), ((), None)))
        self.assertTrue(same(run_machine(machine, (0, 1, 1, 0)), (((5,), (1,), (1,), (T,)), None)))
        self.assertTrue(same(run_machine(machine, (0, 0, 1, 0, 0)), (((5,), (T,)), 2)))
        self.assertTrue(same(run_machine(machine, (1,)), ((), 0)))

    def test_runs_of_programs(self):
        for seed in range(60):
            value = program_of(seed)
            try:
                machine = machine_of(value, 200)
            except TooMany:
                continue
            chance = Righting(seed).random
            indexes = tuple(chance.randrange(len(machine[0])) for _ in range(12))
            self.assertTrue(same(run_machine(machine, indexes), run(value, tuple(machine[0][r] for r in indexes))), seed)

    def test_first_fault(self):
        self.assertIsNone(first_fault(machine_of(LATE, 10)))
        self.assertEqual(first_fault(machine_of(one("x: bool", "y = pre x"), 10)), (0,))
        self.assertEqual(first_fault(machine_of(one("x: bool", "y = if x then pre x else true"), 10)), (1,))
        late = one("x: bool, z: bool", "y = true -> (if x then pre (true -> pre (if z then pre z else true)) else true)")
        found = first_fault(machine_of(late, 100))
        self.assertEqual(found, oracle.first_fault(machine_of(late, 100), 4))

    def test_of_several_shortest_the_first(self):
        rows = ((0,), (1,), (2,))
        table = ((((), 1), ((), 2), ((), 1)), (((), 1), ((), 1), ((), 1)), (((), 0), None, None))
        self.assertEqual(first_fault((rows, table)), (1, 1))
        table = ((((), 1), ((), 2), ((), 3)), (((), 1), ((), 1), ((), 1)), (((), 0), ((), 0), None), (None, None, None))
        self.assertEqual(first_fault((rows, table)), (1, 2))
        table = ((((), 1), ((), 2), ((), 0)), (((), 1), ((), 1), ((), 3)), (((), 3), ((), 0), ((), 0)), (((), 1), None, None))
        self.assertEqual(first_fault((rows, table)), (0, 2, 1))

    def test_second_reckoning(self):
        faults = 0
        for seed in range(150):
            machine = random_machine(seed, states=5, rows=3, faults=0.1)
            told = oracle.first_fault(machine, 4)
            found = first_fault(machine)
            if told is not None or found is None or len(found) <= 4:
                self.assertEqual(found, told)
            faults += found is not None
        self.assertGreater(faults, 40)

    def test_late_faults(self):
        value = read_program("node f(up: bool) -> (y: bool)\nvar n: mod 32, b: bool\nn = 0:32 -> pre (n + (if up then 1:32 else 0:32))\n"
                             "b = pre b\ny = if n = 31:32 then b else true\nend\nmain f")
        self.assertEqual(first_fault(machine_of(value, 1000)), (1,) * 31 + (0,))


if __name__ == "__main__":
    unittest.main()
