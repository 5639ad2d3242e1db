"""[6.3], [6.4], [6.6]: the direct meaning of state machines, and that their translation means the same."""

import unittest

from everytick.causality import is_right
from everytick.direct import active_states, run_direct
from everytick.kinds import fits
from everytick.meaning import run
from everytick.program_texts import read_program
from everytick.states import are_blocks, translated
from tests.righting import Righting
from tests.samples import same

T, F = True, False
COUNT = "node count(up: bool) -> (k: mod 9)\nk = (0:9 fby k) + (if up then 1:9 else 0:9)\nend\n"


def bits(text):
    """Rows of a bool for each digit of a word, one row a word."""
    return tuple(tuple(sign == "1" for sign in word) for word in text.split())


class DirectTest(unittest.TestCase):
    def told(self, text, rows):
        value = read_program(text)
        self.assertTrue(fits(value) and are_blocks(value))
        after = translated(value)
        self.assertTrue(is_right(after))
        found = run_direct(value, rows)
        self.assertTrue(same(found, run(after, rows)), (found, run(after, rows)))
        self.assertEqual(len(active_states(value, rows)), len(found[0]))
        return found

    def outputs(self, text, rows):
        found, fault = self.told(text, rows)
        self.assertIsNone(fault)
        return [row[0] for row in found]

    def faults(self, text, rows, at):
        found, fault = self.told(text, rows)
        self.assertEqual((len(found), fault), (at, at))

    def active(self, text, rows):
        return ["".join(row) for row in active_states(read_program(text), rows)]


def machine(*states, header="node f(x: bool, z: bool) -> (n: mod 9)", rest="", before=""):
    """A program with a block of these states, each a text of the lines behind its name and the name."""
    return f"{before}{header}\n{rest}states\n" + "".join(f"state {row}\n" for row in states) + "end\nend\nmain f"


UP = "n = 0:9 -> pre n + 1:9\n"
DOWN = "n = 8:9 -> pre n - 1:9\n"


class TransitionsTest(DirectTest):
    def test_the_first_state_is_active_first(self):
        text = machine("A\n" + UP, "B\n" + DOWN)
        self.assertEqual(self.outputs(text, bits("11 11 11")), [0, 1, 2])
        self.assertEqual(self.active(text, bits("11 11")), ["A", "A"])

    def test_unless(self):
        rows = bits("00 10 00 01 00")
        text = machine("A\nunless x then B\n" + UP, "B\nunless z then A\n" + DOWN)
        self.assertEqual(self.outputs(text, rows), [0, 8, 7, 0, 1])
        self.assertEqual(self.active(text, rows), list("ABBAA"))
        text = text.replace("then", "continue")
        self.assertEqual(self.outputs(text, rows), [0, 8, 7, 1, 2])
        self.assertEqual(self.active(text, rows), list("ABBAA"))

    def test_until(self):
        rows = bits("00 10 00 01 00 00")
        text = machine("A\n" + UP + "until x then B", "B\n" + DOWN + "until z then A")
        self.assertEqual(self.outputs(text, rows), [0, 1, 8, 7, 0, 1])
        self.assertEqual(self.active(text, rows), list("AABBAA"))
        text = text.replace("then", "continue")
        self.assertEqual(self.outputs(text, rows), [0, 1, 8, 7, 2, 3])
        self.assertEqual(self.active(text, rows), list("AABBAA"))

    def test_the_first_condition_that_is_true_counts(self):
        states = ("A\n{0}n = 1:9\n{1}", "B\nn = 2:9\nuntil true then A", "C\nn = 3:9\nuntil true then A",
                  "D\nn = 4:9\nuntil true then A")
        rows = bits("00 10 00 01 00 11 00")
        lines = "{0} x and z then D\n{0} x then B\n{0} z then C\n"
        text = machine(*states).format(lines.format("unless"), "")
        self.assertEqual(self.outputs(text, rows), [1, 2, 1, 3, 1, 4, 1])
        text = machine(*states).format("", lines.format("until"))
        self.assertEqual(self.outputs(text, bits("00 10 00 01 00 11 00")), [1, 1, 2, 1, 3, 1, 4])
        lines = "{0} x then B\n{0} x and z then D\n{0} z then C\n{0} true continue A\n"
        text = machine(*states).format(lines.format("unless"), "")
        self.assertEqual(self.outputs(text, rows), [1, 2, 1, 3, 1, 2, 1])
        text = machine(*states).format("", lines.format("until"))
        self.assertEqual(self.active(text, rows), list("AABACAB"))

    def test_one_transition_ahead_and_one_behind(self):
        text = machine("A\nunless x then B\nn = 1:9", "B\nunless x then C\nn = 2:9\nuntil z then A", "C\nn = 3:9\nuntil x then B")
        self.assertEqual(self.outputs(text, bits("10 10 00 10 00")), [2, 3, 2, 3, 2])
        self.assertEqual(self.outputs(text, bits("11 11 01 00")), [2, 2, 1, 1])

    def test_only_conditions_of_the_state_itself_count(self):
        text = machine("A\nn = 1:9\nuntil x then B", "B\nunless z then A\nn = 2:9\nuntil x then C", "C\nn = 3:9")
        self.assertEqual(self.outputs(text, bits("01 01 10 00 01 10 10 10")), [1, 1, 1, 2, 1, 1, 2, 3])


class MemoriesTest(DirectTest):
    def test_leading_to_itself(self):
        rows = bits("00 00 10 00 00")
        for word, unless, until in (("then", [0, 1, 0, 1, 2], [0, 1, 2, 0, 1]), ("continue", [0, 1, 2, 3, 4], [0, 1, 2, 3, 4])):
            self.assertEqual(self.outputs(machine(f"A\nunless x {word} A\n" + UP, "B\n" + DOWN), rows), unless)
            self.assertEqual(self.outputs(machine("A\n" + UP + f"until x {word} A", "B\n" + DOWN), rows), until)

    def test_states_keep_their_memories_while_others_are_active(self):
        text = machine("A\n" + UP + "until x continue B", "B\n" + DOWN + "until x continue A")
        self.assertEqual(self.outputs(text, bits("00 10 10 00 10 10 00")), [0, 1, 8, 2, 3, 7, 4])
        text = machine("A\n" + UP + "until x then B", "B\n" + DOWN + "until x continue A")
        self.assertEqual(self.outputs(text, bits("00 10 10 00 10 10 00")), [0, 1, 8, 2, 3, 8, 4])

    def test_a_mark_counts_at_the_next_instant_alone(self):
        # B is to be put back, but at that instant C is active; later B goes on with what it had.
        text = machine("A\n" + UP + "until x then B\nuntil z continue B", "B\nunless z continue C\n" + DOWN + "until x continue A",
                       "C\nn = 5:9\nuntil true continue B")
        self.assertEqual(self.outputs(text, bits("10 00 10 10 01 00 00")), [0, 8, 7, 1, 5, 6, 5])
        self.assertEqual(self.active(text, bits("10 00 10 10 01 00 00")), list("ABBACBB"))
        text = text.replace("until true continue B", "until true then B")
        self.assertEqual(self.outputs(text, bits("10 00 10 10 01 00 00")), [0, 8, 7, 1, 5, 8, 7])

    def test_a_mark_is_taken_over_by_an_unless_with_continue(self):
        text = machine("A\nunless z continue A\n" + UP + "until x then A", "B\n" + DOWN)
        self.assertEqual(self.outputs(text, bits("00 00 10 01 00")), [0, 1, 2, 3, 4])
        self.assertEqual(self.outputs(text, bits("00 00 10 00 00")), [0, 1, 2, 0, 1])
        text = text.replace("unless z continue", "unless z then")
        self.assertEqual(self.outputs(text, bits("00 00 01 11 00")), [0, 1, 0, 0, 0])

    def test_calls(self):
        for word, expected in (("then", [1, 2, 8, 1, 1, 2, 8, 1]), ("continue", [1, 2, 8, 3, 3, 4, 8, 5])):
            text = machine("A\nn = count(not z)\nuntil x continue B", f"B\nn = 8:9\nuntil true {word} A", before=COUNT)
            self.assertEqual(self.outputs(text, bits("00 10 00 00 01 10 00 00")), expected)

    def test_calls_with_resets(self):
        text = machine("A\nn = count(true) every z\nuntil x continue B", "B\nn = 8:9\nuntil true continue A", before=COUNT)
        self.assertEqual(self.outputs(text, bits("00 00 01 00 10 01 00 01")), [1, 2, 1, 2, 3, 8, 4, 1])

    def test_several_variables(self):
        text = machine("A\n(n, m) = both(x)\nuntil x continue B", "B\nm = 7:9 fby n\nn = m + 1:9\nuntil not x then A",
                       header="node f(x: bool, z: bool) -> (n: mod 9, m: mod 9)",
                       before=COUNT + "node both(a: bool) -> (p: mod 9, q: mod 9)\np = count(a)\nq = count(true)\nend\n")
        found, fault = self.told(text, bits("00 10 10 00 00 00"))
        self.assertEqual((found, fault), (((0, 1), (1, 2), (8, 7), (0, 8), (0, 1), (0, 2)), None))

    def test_variables_of_the_block_before_one_another(self):
        text = machine("A\nn = m + 1:9\nm = 2:9 fby n\nuntil x then B", "B\nm = if z then n else 3:9\nn = 1:9",
                       header="node f(x: bool, z: bool) -> (n: mod 9, m: mod 9)")
        found, fault = self.told(text, bits("00 00 10 01 00"))
        self.assertEqual((found, fault), (((3, 2), (4, 3), (5, 4), (1, 1), (1, 3)), None))


class SeveralBlocksTest(DirectTest):
    text = ("node f(x: bool) -> (n: mod 9, a: bool)\nstates\nstate A\nunless not a then B\n" + UP + "state B\n"
            "unless a continue A\nn = 8:9\nend\nstates\nstate On\na = true\nuntil x then Off\nstate Off\n"
            "a = false\nuntil x then On\nend\nend\nmain f")

    def test_blocks_that_need_each_other(self):
        found, fault = self.told(self.text, bits("0 1 0 1 0 0"))
        self.assertEqual((found, fault), (((0, T), (1, T), (8, F), (8, F), (2, T), (3, T)), None))
        self.assertEqual(active_states(read_program(self.text), bits("0 1 0 1 0 0")), (
            ("A", "On"), ("A", "On"), ("B", "Off"), ("B", "Off"), ("A", "On"), ("A", "On")))

    def test_until_may_need_what_needs_the_block(self):
        text = machine("A\n" + UP + "until p then B", "B\n" + DOWN + "until p continue A",
                       rest="var p: bool, q: mod 9\np = q = 3:9 or x\nq = n + 1:9\n")
        self.assertEqual(self.outputs(text, bits("00 00 00 00 00 10 00 00")), [0, 1, 2, 8, 7, 6, 3, 4])

    def test_equations_outside(self):
        text = machine("A\nn = last + 1:9\nuntil x then B", "B\nn = last + last\nuntil x then A",
                       rest="var last: mod 9\nlast = 5:9 fby n\n")
        self.assertEqual(self.outputs(text, bits("00 10 00 10 00")), [6, 7, 5, 1, 2])

    def test_clocks_beside_a_block(self):
        text = machine("A\nn = k\nuntil x then B", "B\nn = k + k\nuntil z then A",
                       rest="var k: mod 9, w: mod 9\nw = 1:9 fby (2:9 when z)\nk = merge z (false -> 5:9) (true -> w)\n")
        self.assertEqual(self.outputs(text, bits("00 01 10 00 01 01 01")), [5, 1, 5, 1, 4, 2, 2])


class NodesTest(DirectTest):
    inner = machine("A\n" + UP + "until x then B", "B\n" + DOWN).replace("node f(x: bool, z: bool)", "node m(x: bool)").replace(
        "main f", "node f(x: bool, z: bool) -> (n: mod 9)\n{}\nend\nmain f")

    def test_a_node_that_is_called(self):
        self.assertEqual(self.outputs(self.inner.format("n = m(x)"), bits("00 10 00 00")), [0, 1, 8, 7])
        self.assertEqual(self.active(self.inner.format("n = m(x)"), bits("00 10")), ["", ""])

    def test_with_a_reset(self):
        self.assertEqual(self.outputs(self.inner.format("n = m(x) every z"), bits("00 10 00 01 10 01 00")),
                         [0, 1, 8, 0, 1, 0, 1])

    def test_on_a_clock(self):
        line = "var k: mod 9\nk = m(x when z)\nn = merge z (false -> 4:9) (true -> k)"
        self.assertEqual(self.outputs(self.inner.format(line), bits("01 11 10 01 00 01")), [0, 1, 4, 8, 4, 7])

    def test_on_a_clock_with_a_reset(self):
        line = "var k: mod 9\nk = m(true) every x when z\nn = merge z (false -> 4:9) (true -> k)"
        self.assertEqual(self.outputs(self.inner.format(line), bits("01 01 10 01 11 01")), [0, 8, 4, 7, 0, 8])

    def test_two_instances(self):
        line = "var k: mod 9, l: mod 9\nk = m(z)\nl = m(x)\nn = k + l"
        self.assertEqual(self.outputs(self.inner.format(line), bits("01 00 10 00")), [0, 0, 0, 5])

    def test_blocks_in_states(self):
        text = machine("A\nn = m(z)\nuntil x continue B", "B\nn = 4:9\nuntil true then A",
                       before=self.inner[:self.inner.index("node f")])
        self.assertEqual(self.outputs(text, bits("00 01 00 10 00 00 01 10")), [0, 1, 8, 7, 4, 0, 1, 8])
        self.assertEqual(self.active(text, bits("00 01 00 10 00 00")), list("AAAABA"))

    def test_programs_without_blocks(self):
        for seed in range(40):
            maker = Righting(seed, nil=0.3)
            value = maker.program(3)
            rows = maker.rows(value, 5)
            self.assertTrue(same(run_direct(value, rows), run(value, rows)))
            self.assertEqual(active_states(value, rows), ((),) * len(run(value, rows)[0]))


class FaultsTest(DirectTest):
    rest = "var p: bool\np = x -> pre pre x\n"

    def test_conditions_with_nil(self):
        rows = bits("00 00 00")
        self.faults(machine("A\nunless p then B\n" + UP, "B\n" + DOWN, rest=self.rest), rows, 1)
        self.faults(machine("A\n" + UP + "until p then B", "B\n" + DOWN, rest=self.rest), rows, 1)
        self.faults(machine("A\n" + UP + "until p continue A", "B\n" + DOWN, rest=self.rest), rows, 1)
        self.faults(machine("A\nunless x then B\nunless p then A\n" + UP, "B\n" + DOWN, rest=self.rest), rows, 1)
        self.faults(machine("A\n" + UP + "until p and false then B", "B\n" + DOWN, rest=self.rest), rows, 1)

    def test_conditions_that_are_not_worked_out(self):
        rows = bits("00 01 00")
        self.assertEqual(self.outputs(machine(
            "A\nunless z then B\nunless p then A\n" + UP, "B\n" + DOWN, rest=self.rest), rows), [0, 8, 7])
        self.assertEqual(self.outputs(machine(
            "A\n" + UP + "until z then B\nuntil p then A", "B\n" + DOWN, rest=self.rest), rows), [0, 1, 8])
        self.assertEqual(self.outputs(machine(
            "A\n" + UP, "B\nunless p then A\n" + DOWN + "until p then A", rest=self.rest), rows), [0, 1, 2])
        text = machine("A\nunless z then B\n" + UP + "until p then A", "B\n" + DOWN, rest=self.rest)
        self.assertEqual(self.outputs(text, rows), [0, 8, 7])

    def test_the_state_that_is_entered_is_not_asked_its_unless(self):
        text = machine("A\nunless z then B\n" + UP, "B\nunless p then A\n" + DOWN + "until true then A", rest=self.rest)
        self.assertEqual(self.outputs(text, bits("00 01 00")), [0, 8, 0])
        self.faults(text.replace("until true then A", ""), bits("01 00 00"), 1)

    def test_outputs_with_nil(self):
        self.faults(machine("A\nn = pre n\n", "B\n" + DOWN), bits("00"), 0)
        self.faults(machine("A\n" + UP + "until x then B", "B\nn = pre n + 1:9\n"), bits("00 10 00 00"), 2)
        self.faults(machine("A\n" + UP + "until x then B", "B\nn = pre n + 1:9\nuntil true then A"), bits("00 10 00 00"), 2)

    def test_nil_in_variables_of_a_block_is_no_fault_by_itself(self):
        text = machine("A\nk = pre n\nn = 1:9 fby n + 1:9\nuntil x then B", "B\nk = 3:9\nn = k", rest="var k: mod 9\n")
        self.assertEqual(self.outputs(text, bits("00 10 00")), [1, 2, 3])

    def test_faults_in_states(self):
        before = ("node g(p: bool, n: mod 9) -> (k: mod 9)\nvar a: mod 9\na = n when p\n"
                  "k = merge p (false -> 0:9) (true -> a)\nend\n")
        text = machine("A\n" + UP + "until x then B", "B\nn = g(pre x, 3:9)", before=before)
        self.faults(text, bits("00 10 00 00"), 2)
        self.faults(machine("A\n" + UP + "until x then B", "B\nn = count(true) every pre x", before=COUNT), bits("10 00"), 1)
        text = machine("A\n" + UP + "until x then B", "B\nn = count(true) every false -> pre x", before=COUNT)
        self.assertEqual(self.outputs(text, bits("10 10 00 00")), [0, 1, 1, 2])

    def test_what_tells_what_is_present_beside_a_block(self):
        rest = "var b: bool, k: mod 9\nk = merge b (false -> 0:9) (true -> 1:9)\n"
        text = machine("A\nn = 1:9\nb = x\nuntil x then B", "B\nn = 2:9\nb = pre x", rest=rest)
        self.faults(text, bits("00 10 00"), 2)

    def test_faults_within_nodes_with_blocks(self):
        text = machine("A\nunless p then B\n" + UP, "B\n" + DOWN, rest="var p: bool\np = x -> pre pre x\n").replace(
            "node f(", "node m(").replace("main f", "")
        self.faults(text + "node f(x: bool, z: bool) -> (n: mod 9)\nvar k: mod 9\nk = m(x, z)\nn = 0:9\nend\nmain f",
                    bits("00 00 00"), 1)
        on = ("node f(x: bool, z: bool) -> (n: mod 9)\nvar k: mod 9\nk = m(x when z, z when z)\n"
              "n = merge z (false -> 0:9) (true -> k)\nend\nmain f")
        self.faults(text + on, bits("00 01 00 00 01"), 4)

    def test_no_rows(self):
        text = machine("A\n" + UP, "B\n" + DOWN)
        self.assertEqual(self.told(text, ()), ((), None))
        self.assertEqual(active_states(read_program(text), ()), ())


class RandomTest(DirectTest):
    def test_the_translation_means_the_same(self):
        active, ends = {}, {True: 0, False: 0}
        for seed in range(500):
            maker = Righting(seed, nil=(0, 0.1, 0.5)[seed % 3], blocks=(0.4, 0.8)[seed % 2])
            value = maker.program(1 + seed % 3)
            rows = maker.rows(value, 10)
            found = run_direct(value, rows)
            self.assertTrue(same(found, run(translated(value), rows)), seed)
            ends[found[1] is None or found[1] == 0] += 1
            names = active_states(value, rows)
            blocks = [entry for entry in value[1][-1][4] if entry[0] == "states"]
            self.assertEqual(len(names), len(found[0]))
            for row in names:
                self.assertEqual(len(row), len(blocks))
                for name, entry in zip(row, blocks):
                    place = [state[0] for state in entry[1]].index(name)
                    active[place] = active.get(place, 0) + 1
        self.assertGreater(min(active.get(k, 0) for k in range(3)), 50)
        self.assertGreater(min(ends.values()), 10, ends)
