"""[9.6]: bisimulations, telling rows, and programs that do the same."""

import unittest

from everytick.equality import compared, same_programs
from everytick.errors import TooMany
from everytick.least import least_machine
from everytick.machines import input_rows, machine_of
from everytick.meaning import run
from everytick.normal import normalized
from everytick.program_texts import read_program
from everytick.sharing import shared
from tests import finite_oracle as oracle
from tests.finite_oracle import random_machine
from tests.samples import same
from tests.test_least import ring
from tests.test_making import program_of

T, F = True, False
ROWS = ((0,), (1,))


def read(inputs, output, *lines, sorts=()):
    return read_program("\n".join([*sorts, f"node f({inputs}) -> (y: {output})", *lines, "end", "main f"]))


class ComparedTest(unittest.TestCase):
    def equal(self, one, other, told):
        found = compared(one, other)
        self.assertTrue(same(found, told), found)

    def test_a_machine_with_itself(self):
        machine = (ROWS, ((((1,), 1), ((1,), 2)), (((2,), 0), None), (((2,), 0), None)))
        self.equal(machine, machine, ("same", ((0, 0), (1, 1), (2, 2))))

    def test_two_rings_of_other_lengths(self):
        one, other = ring(4, lambda s: s % 2), ring(6, lambda s: s % 2)
        self.equal(one, other, ("same", tuple(sorted((k % 4, k % 6) for k in range(12)))))
        self.equal(other, one, ("same", tuple(sorted((k % 6, k % 4) for k in range(12)))))
        self.equal(ring(2, lambda s: 0), ring(3, lambda s: 0), ("same", tuple((a, b) for a in range(2) for b in range(3))))

    def test_only_pairs_that_are_reached(self):
        machine = (ROWS, ((((1,), 1), ((1,), 2)), (((2,), 1), ((2,), 2)), (((2,), 2), ((2,), 2))))
        self.equal(machine, least_machine(machine), ("same", ((0, 0), (1, 1), (2, 1))))

    def test_apart_at_once(self):
        for one, other in (((1,), (2,)), ((1,), (T,)), ((F,), (0,)), ((), (1,)), ((1,), ("1",))):
            self.equal((ROWS, (((one, 0), (one, 0)),)), (ROWS, (((one, 0), (other, 0)),)), ("apart", (1,)))
            self.equal((ROWS, (((other, 0), (one, 0)),)), (ROWS, (((one, 0), (one, 0)),)), ("apart", (0,)))

    def test_apart_by_a_fault(self):
        one, other = (ROWS, ((((1,), 0), ((1,), 0)),)), (ROWS, ((((1,), 0), None),))
        self.equal(one, other, ("apart", (1,)))
        self.equal(other, one, ("apart", (1,)))
        self.equal(other, other, ("same", ((0, 0),)))

    def test_faults_of_both_and_nothing_behind_them(self):
        machine = (ROWS, ((None, None),))
        self.equal(machine, machine, ("same", ((0, 0),)))

    def test_apart_late(self):
        one, other = ring(20, lambda s: s == 19), ring(20, lambda s: 0 if s == 19 else False)
        self.equal(ring(20, lambda s: int(s == 19)), ring(1, lambda s: 0), ("apart", (0,) * 20))
        self.equal(ring(7, lambda s: s < 6), ring(5, lambda s: s < 4), ("apart", (0,) * 5))
        self.equal(one, other, ("apart", (0,) * 20))

    def test_of_several_shortest_the_first(self):
        rows = ((0,), (1,), (2,))
        one = (rows, ((((0,), 1), ((0,), 2), ((0,), 1)), (((0,), 0), ((0,), 0), ((1,), 0)), (((5,), 0), ((0,), 0), ((0,), 0))))
        other = (rows, ((((0,), 0), ((0,), 0), ((0,), 0)),))
        self.equal(one, other, ("apart", (0, 2)))
        self.equal(other, one, ("apart", (0, 2)))

    def test_second_reckoning(self):
        told = {"same": 0, "apart": 0}
        for seed in range(300):
            rows, states = 1 + seed % 3, 2 + seed % 4
            one = random_machine(seed, states=states, rows=rows, outputs=(0, 0, 0, 0, 1), faults=0.03)
            other = random_machine(seed + 9, states=states, rows=rows, outputs=(0, 0, 0, 0, 1), faults=0.03)
            if seed % 2:
                other = least_machine(one)
            word, found = compared(one, other)
            told[word] += 1
            way = oracle.telling_row(one, other, 5)
            if word == "apart" and len(found) <= 5 or way is not None:
                self.assertEqual((word, found), ("apart", way))
            if word == "same":
                self.assertEqual(found, least_bisimulation(one, other))
        self.assertGreater(min(told.values()), 50)


def least_bisimulation(one, other):
    """The least set with (0, 0) that is closed."""
    found = {(0, 0)}
    while True:
        more = {(a[1], b[1]) for s, t in found for a, b in zip(one[1][s], other[1][t]) if a is not None}
        if more <= found:
            return tuple(sorted(found))
        found |= more


class SameProgramsTest(unittest.TestCase):
    def test_same(self):
        one = read("x: bool", "bool", "y = false fby x")
        other = read("z: bool", "bool", "y = false -> pre z")
        self.assertEqual(same_programs(one, one, 3), ("same", ((0, 0), (1, 1), (2, 2))))
        self.assertEqual(same_programs(one, other, 10), ("same", ((0, 0), (1, 1), (2, 2))))

    def test_apart_with_input_rows(self):
        one = read("x: bool, n: mod 3", "bool", "y = false fby x and n = 2:3")
        other = read("x: bool, n: mod 3", "bool", "y = false")
        found = same_programs(one, other, 10)
        self.assertTrue(same(found, ("apart", ((T, 2), (F, 0)))), found)
        self.assertTrue(same(same_programs(other, one, 10), found))

    def test_apart_by_a_fault(self):
        one = read("x: bool", "bool", "y = if x then pre x else true")
        other = read("x: bool", "bool", "y = if x then true -> pre x else true")
        self.assertEqual(same_programs(one, other, 10), ("apart", ((T,),)))

    def test_interfaces(self):
        base = read("x: bool, n: mod 3", "bool", "y = x")
        for other in (read("n: mod 3, x: bool", "bool", "y = x"), read("x: bool, n: mod 4", "bool", "y = x"),
                      read("x: bool", "bool", "y = x"), read("x: bool, n: mod 3, z: bool", "bool", "y = x"),
                      read("x: mod 2, n: mod 3", "bool", "y = x = x"), read("x: bool, n: mod 3", "mod 2", "y = 1:2")):
            self.assertEqual(same_programs(base, other, 1), ("interface",))
            self.assertEqual(same_programs(other, base, 1), ("interface",))
        two = read_program("node f(x: bool, n: mod 3) -> (y: bool, z: bool)\ny = x\nz = x\nend\nmain f")
        self.assertEqual(same_programs(base, two, 1), ("interface",))
        self.assertEqual(same_programs(base, read("a: bool, b: mod 3", "bool", "y = a"), 1)[0], "same")

    def test_sorts_are_compared_by_their_constructors(self):
        def sorted_program(*sorts, kind="E"):
            return read(f"e: {kind}", kind, "y = e", sorts=sorts)

        base = sorted_program("sort E = A | B")
        self.assertEqual(same_programs(base, sorted_program("sort F = A | B", kind="F"), 1), ("same", ((0, 0),)))
        self.assertEqual(same_programs(base, sorted_program("sort G = C | D", "sort F = A | B", kind="F"), 1), ("same", ((0, 0),)))
        for other in (sorted_program("sort E = B | A"), sorted_program("sort E = A | B | C"), sorted_program("sort E = A | C"),
                      read("e: bool", "bool", "y = e"), read("e: mod 2", "mod 2", "y = e")):
            self.assertEqual(same_programs(base, other, 1), ("interface",))

    def test_limits(self):
        one = read("x: bool", "bool", "y = false fby x")
        other = read("x: bool", "bool", "y = false")
        self.assertEqual(same_programs(one, other, 3), ("apart", ((T,), (F,))))
        for pair in ((one, other), (other, one), (one, one)):
            with self.assertRaises(TooMany):
                same_programs(*pair, 2)
        wide = read("n: mod 32, m: mod 32", "bool", "y = true")
        with self.assertRaises(TooMany):
            same_programs(wide, wide, 1000)
        self.assertEqual(same_programs(wide, one, 1000), ("interface",))

    def test_forms_of_a_program(self):
        done = 0
        for seed in range(60):
            value = program_of(seed)
            try:
                found = same_programs(value, normalized(value), 60)
                self.assertEqual(found[0], "same", seed)
                self.assertEqual(same_programs(shared(value), value, 60)[0], "same", seed)
                self.assertEqual(found, compared(machine_of(value, 60), machine_of(normalized(value), 60)))
                done += 1
            except TooMany:
                continue
        self.assertGreater(done, 20)

    def test_telling_rows_of_programs(self):
        done = 0
        texts = ("y = x -> pre x", "y = x fby x", "y = false fby x", "y = x -> pre (x -> pre x)", "y = x", "y = x and (true fby x)",
                 "y = pre x", "y = x or (false fby false fby x)")
        for one in texts:
            for other in texts:
                first, second = read("x: bool", "bool", one), read("x: bool", "bool", other)
                word, found = same_programs(first, second, 100)
                if word == "apart":
                    done += 1
                    self.assertFalse(same(run(first, found), run(second, found)))
                    self.assertTrue(same(run(first, found[:-1]), run(second, found[:-1])))
                    rows = input_rows(first)
                    way = oracle.telling_row(machine_of(first, 100), machine_of(second, 100), 5)
                    self.assertEqual(found, tuple(rows[r] for r in way))
        self.assertGreater(done, 40)


if __name__ == "__main__":
    unittest.main()
