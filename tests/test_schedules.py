"""[5.4] to [5.6]: schedules, rounds and swaps."""

import itertools
import random
import unittest

from everytick.causality import BadRing, first_ring, needs
from everytick.clocks import clash_of
from everytick.program_texts import read_program
from everytick.schedules import first_schedule, is_schedule, rounds, swaps
from tests import need_oracle as oracle
from tests.fitting import Fitting
from tests.righting import Righting
from tests.samples import ODD_VALUES


def read(*lines, inner, before=()):
    return read_program("\n".join([*before, "node f(x: bool) -> (y: bool)", f"var {inner}", *lines, "end", "main f"]))


class ScheduleTest(unittest.TestCase):
    diamond = read("y = a and b", "a = c", "b = not c", "c = x", "d = true fby y",
                   inner="a: bool, b: bool, c: bool, d: bool")

    def test_the_first_schedule(self):
        self.assertEqual(first_schedule(self.diamond, "f"), (3, 1, 2, 0, 4))
        value = read("a = x", "b = x", "y = x", inner="a: bool, b: bool")
        self.assertEqual(first_schedule(value, "f"), (0, 1, 2))
        value = read("a = b", "b = y", "y = x", "c = x", inner="a: bool, b: bool, c: bool")
        self.assertEqual(first_schedule(value, "f"), (2, 1, 0, 3))
        value = read("a = c", "b = x", "c = b", "y = x", inner="a: bool, b: bool, c: bool")
        self.assertEqual(first_schedule(value, "f"), (1, 2, 0, 3))

    def test_memories_part_what_they_stand_between(self):
        value = read("a = pre b", "b = pre a", "y = a -> b", inner="a: bool, b: bool")
        self.assertEqual(first_schedule(value, "f"), (0, 1, 2))
        self.assertTrue(is_schedule(value, "f", (1, 0, 2)))
        self.assertFalse(is_schedule(value, "f", (1, 2, 0)))

    def test_clocks_and_calls_count(self):
        before = ("node g(a: bool) -> (b: bool, c: bool)", "b = a", "c = true fby a", "end")
        value = read("a = pre a", "k = merge c (false -> true) (true -> a)", "(p, q) = g(k) every r", "r = not y",
                     "c = x", "y = x", inner="a: bool, k: bool, p: bool, q: bool, r: bool, c: bool", before=before)
        self.assertEqual(first_schedule(value, "f"), (4, 0, 1, 5, 3, 2))
        self.assertEqual(rounds(value, "f"), ((4, 5), (0, 3), (1,), (2,)))
        self.assertFalse(is_schedule(value, "f", (0, 4, 1, 5, 3, 2)))
        self.assertFalse(is_schedule(value, "f", (4, 0, 1, 2, 5, 3)))

    def test_wrong_values(self):
        good = (3, 1, 2, 0, 4)
        self.assertIs(is_schedule(self.diamond, "f", good), True)
        self.assertIs(is_schedule(self.diamond, "f", (4, 3, 2, 1, 0)), True)
        self.assertIs(is_schedule(self.diamond, "f", (3, 2, 1, 0, 4)), True)
        for value in ((3, 1, 2, 0), (3, 1, 2, 0, 4, 4), (3, 1, 2, 0, 0), (3, 1, 2, 0, 5), (3, 1, 2, 0, -1), list(good),
                      (3, True, 2, 0, 4), (3, 1, 2, False, 4), (3, 1, 2, "0", 4), (3, 1, 2, (0,), 4), (3, 1, 2, None, 4),
                      (), (good,), "31204", (0, 1, 2, 3, 4), (3, 1, 0, 2, 4), (4, 1, 3, 2, 0)) + ODD_VALUES:
            self.assertIs(is_schedule(self.diamond, "f", value), False, value)
        single = read_program("node f() -> (y: bool)\ny = true\nend\nmain f")
        self.assertIs(is_schedule(single, "f", (0,)), True)
        for value in ODD_VALUES + ((False,), (1,), (0, 0)):
            self.assertIs(is_schedule(single, "f", value), False, value)

    def test_a_node_with_a_ring(self):
        value = read("a = b", "b = a", "y = x", inner="a: bool, b: bool")
        for row in itertools.permutations(range(3)):
            self.assertIs(is_schedule(value, "f", row), False)
        for function in (first_schedule, rounds):
            with self.assertRaises(BadRing) as caught:
                function(value, "f")
            self.assertEqual((caught.exception.node, caught.exception.ring), ("f", ("a", "b")))
        value = read_program("node f(x: bool) -> (y: bool)\ny = x and y\nend\nmain f")
        self.assertIs(is_schedule(value, "f", (0,)), False)
        with self.assertRaises(BadRing) as caught:
            first_schedule(value, "f")
        self.assertEqual(caught.exception.ring, ("y",))

    def test_other_nodes_do_not_matter(self):
        text = "node f(x: bool) -> (y: bool)\ny = x\nend\nnode g(x: bool) -> (y: bool)\ny = y\nend\nmain g"
        value = read_program(text)
        self.assertEqual(first_schedule(value, "f"), (0,))
        with self.assertRaises(BadRing) as caught:
            rounds(value, "g")
        self.assertEqual(caught.exception.node, "g")

    def test_random_programs(self):
        for seed in range(250):
            value = (Fitting if seed % 3 == 0 else Righting)(seed, **({} if seed % 3 == 0 else {"groups": 6})).program(2)
            if clash_of(value) is not None:
                continue
            for node in value[1]:
                many = len(node[4])
                if many > 6:
                    continue
                found = oracle.schedules(node)
                chosen = list(itertools.permutations(range(many)))
                for row in random.Random(seed).sample(chosen, min(30, len(chosen))):
                    self.assertIs(is_schedule(value, node[0], row), row in found)
                self.assertEqual(not found, first_ring(value, node[0]) is not None)
                if found:
                    self.assertEqual(first_schedule(value, node[0]), found[0])
                else:
                    with self.assertRaises(BadRing) as caught:
                        first_schedule(value, node[0])
                    self.assertEqual(caught.exception.ring, oracle.first_ring(node))


class RoundsTest(unittest.TestCase):
    def test_rounds(self):
        self.assertEqual(rounds(ScheduleTest.diamond, "f"), ((3, 4), (1, 2), (0,)))
        value = read("a = true", "b = a", "y = x", inner="a: bool, b: bool")
        self.assertEqual(rounds(value, "f"), ((0, 2), (1,)))
        value = read_program("node f() -> (y: bool)\ny = true\nend\nmain f")
        self.assertEqual(rounds(value, "f"), ((0,),))

    def test_random_programs(self):
        for seed in range(150):
            value = Righting(seed, groups=8).program(2)
            for node in value[1]:
                expected, done = [], set()
                rows = oracle.before(node)
                while len(done) < len(rows):
                    ready = [n for n in range(len(rows)) if n not in done and rows[n] <= done]
                    expected.append(tuple(ready))
                    done |= set(ready)
                self.assertEqual(rounds(value, node[0]), tuple(expected))
                self.assertEqual(len(expected), longest(dict(needs(value, node[0]))))


def longest(needed):
    """The greatest number of variables of which each needs the next one."""
    found = {}

    def length(x):
        if x not in found:
            found[x] = 1 + max([length(y) for y in needed[x] if y in needed], default=0)
        return found[x]

    return max(length(x) for x in needed)


class SwapsTest(unittest.TestCase):
    def check(self, value, name, one, other):
        node = [row for row in value[1] if row[0] == name][0]
        rows = oracle.before(node)
        row = list(one)
        found = swaps(one, other)
        self.assertIsInstance(found, tuple)
        for k in found:
            self.assertTrue(0 <= k < len(row) - 1)
            row[k], row[k + 1] = row[k + 1], row[k]
            self.assertTrue(oracle.is_schedule(rows, row))
        self.assertEqual(tuple(row), other)
        pairs = itertools.combinations(range(len(one)), 2)
        apart = [1 for a, b in pairs if (one.index(a) < one.index(b)) != (other.index(a) < other.index(b))]
        self.assertEqual(len(found), len(apart))

    def test_one_swap(self):
        self.assertEqual(swaps((0, 1), (1, 0)), (0,))
        self.assertEqual(swaps((0, 1, 2), (0, 2, 1)), (1,))
        self.assertEqual(swaps((2, 0, 1), (2, 0, 1)), ())
        self.assertEqual(swaps((0,), (0,)), ())
        self.assertEqual(len(swaps((0, 1, 2, 3), (3, 2, 1, 0))), 6)

    def test_all_pairs_of_schedules(self):
        for value in (ScheduleTest.diamond, read("a = x", "b = a", "c = x", "d = c", "y = x",
                                                 inner="a: bool, b: bool, c: bool, d: bool")):
            found = oracle.schedules(value[1][0])
            self.assertGreater(len(found), 5)
            for one in found:
                for other in found:
                    self.check(value, "f", one, other)

    def test_random_programs(self):
        for seed in range(80):
            value = Righting(seed, groups=6).program(1)
            node = value[1][0]
            if len(node[4]) <= 6:
                found = oracle.schedules(node)
                chooser = random.Random(seed)
                for _ in range(5):
                    self.check(value, node[0], chooser.choice(found), chooser.choice(found))
