"""[9.5]: states that do the same, and least machines."""

import unittest

from everytick.errors import TooMany
from everytick.least import classes, least_machine
from everytick.machines import is_machine, machine_of, run_machine
from everytick.program_texts import read_program
from tests import finite_oracle as oracle
from tests.finite_oracle import random_machine
from tests.samples import same
from tests.test_making import program_of

T, F = True, False
ROWS = ((0,), (1,))


def ring(many, told):
    """A machine with one row that goes round through so many states; told gives the output of each."""
    return (((),), tuple((((told(s),), (s + 1) % many),) for s in range(many)))


class ClassesTest(unittest.TestCase):
    def test_one_state(self):
        self.assertEqual(classes((ROWS, ((((1,), 0), None),))), (0,))

    def test_by_the_first_instant(self):
        machine = (ROWS, ((((1,), 1), ((1,), 2)), (((2,), 0), ((1,), 0)), (((1,), 2), ((1,), 1))))
        self.assertEqual(classes(machine), (0, 1, 2))

    def test_by_a_fault_alone(self):
        machine = (ROWS, ((((1,), 1), ((1,), 2)), (((1,), 1), ((1,), 1)), (((1,), 1), None)))
        self.assertEqual(classes(machine), (0, 1, 2))
        machine = (ROWS, ((None, ((1,), 1)), (None, ((1,), 0))))
        self.assertEqual(classes(machine), (0, 0))

    def test_by_true_and_1_alone(self):
        for one, other, told in ((1, 1, 0), (T, T, 0), (T, 1, 1), (0, F, 1), ((1,), (T,), 1), ("1", 1, 1), (None, 0, 1)):
            machine = (ROWS, ((((one,), 1), ((one,), 0)), (((other,), 0), ((other,), 1))))
            self.assertEqual(classes(machine), (0, told))

    def test_behind_several_rows_alone(self):
        machine = ring(12, lambda s: s == 7)
        self.assertEqual(classes(machine), tuple(range(12)))
        machine = ring(12, lambda s: s % 6 == 5)
        self.assertEqual(classes(machine), tuple(range(6)) * 2)
        machine = ring(12, lambda s: 5)
        self.assertEqual(classes(machine), (0,) * 12)

    def test_numbers_in_the_order_in_which_they_come_up(self):
        machine = (ROWS, ((((1,), 1), ((1,), 2)), (((9,), 0), ((9,), 3)), (((1,), 1), ((1,), 0)), (((0,), 3), ((0,), 4)), (((9,), 2), ((9,), 3))))
        self.assertEqual(classes(machine), (0, 1, 0, 2, 1))

    def test_second_reckoning(self):
        several = 0
        for seed in range(400):
            machine = random_machine(seed, states=2 + seed % 9, rows=1 + seed % 3, outputs=((0, 1), (0, 0, 0, 1), (1, T), (0,))[seed % 4])
            found = classes(machine)
            self.assertEqual(found, oracle.classes(machine), seed)
            several += 1 < len(set(found)) < len(machine[1])
        self.assertGreater(several, 15)

    def test_large_machines(self):
        machine = ring(5000, lambda s: s == 4999)
        self.assertEqual(classes(machine), tuple(range(5000)))
        self.assertEqual(len(least_machine(ring(6000, lambda s: s % 3000 == 0))[1]), 3000)


class LeastMachineTest(unittest.TestCase):
    def test_states_twice(self):
        machine = (ROWS, ((((1,), 1), ((1,), 2)), (((2,), 0), None), (((2,), 0), None)))
        self.assertTrue(same(least_machine(machine), (ROWS, ((((1,), 1), ((1,), 1)), (((2,), 0), None)))))

    def test_least_machines_stay(self):
        machine = (ROWS, ((((1,), 1), ((T,), 2)), (((2,), 0), None), (((T,), 0), None)))
        self.assertTrue(same(least_machine(machine), machine))

    def test_rows_stay(self):
        machine = ((("a", 1), ("a", T), ()), ((((), 1), ((), 1), None), (((), 0), ((), 0), None)))
        self.assertTrue(same(least_machine(machine), (machine[0], ((((), 0), ((), 0), None),))))

    def test_random_machines(self):
        smaller = 0
        for seed in range(300):
            machine = random_machine(seed, states=2 + seed % 10, rows=1 + seed % 3, outputs=((0, 1), (0, 0, 0, 1), (1, T), (0,))[seed % 4])
            found = least_machine(machine)
            self.assertTrue(is_machine(found))
            self.assertTrue(same(least_machine(found), found))
            self.assertEqual(len(found[1]), len(set(oracle.classes(machine))))
            for way in oracle.all_ways(machine, 4):
                self.assertTrue(same(run_machine(found, way), run_machine(machine, way)))
            smaller += len(found[1]) < len(machine[1])
        self.assertGreater(smaller, 40)

    def test_programs(self):
        value = read_program("node f(x: bool) -> (y: bool)\nvar a: mod 4\na = 0:4 fby (a + 1:4)\ny = a = 1:4 or a = 3:4\nend\nmain f")
        machine = machine_of(value, 100)
        found = least_machine(machine)
        self.assertEqual(found, (((F,), (T,)), ((((F,), 1), ((F,), 1)), (((T,), 0), ((T,), 0)))))
        for seed in range(60):
            try:
                machine = machine_of(program_of(seed), 40)
            except TooMany:
                continue
            self.assertTrue(is_machine(least_machine(machine)))
            self.assertEqual(classes(machine), oracle.classes(machine))


if __name__ == "__main__":
    unittest.main()
