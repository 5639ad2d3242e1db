"""[10.5], [10.6]: all states, and claims that are inductive."""

import itertools
import unittest

from everytick.claims import is_claim, observed, verdict
from everytick.errors import TooMany
from everytick.induction import MAX_ALL, all_states, is_inductive, least_induction
from everytick.meaning import beginning, instant, is_state
from everytick.program_texts import read_program
from tests import finite_oracle as oracle
from tests.claiming import Claiming, same_again
from tests.samples import same
from tests.test_claims import LATE, NEVER, claim_of, late_claim, read

T, F = True, False


def counter(modulus, most):
    """A program that counts up to a number, and then begins anew."""
    n, k = f"mod {modulus}", f"{modulus}"
    return read(f"node f(up: bool) -> (n: {n})", f"n = 0:{k} fby (if not up then n else if n = {most}:{k} then 0:{k} else n + 1:{k})",
                "end", "main f")


class AllStatesTest(unittest.TestCase):
    def states(self, *lines):
        program = read(*lines)
        found = all_states(program)
        self.assertIsInstance(found, list)
        self.assertTrue(all(is_state(program, state) for state in found))
        self.assertEqual(len({repr(state) for state in found}), len(found))
        return found

    def test_no_memory(self):
        self.assertEqual(self.states("node f(x: bool) -> (y: bool)", "y = x", "end", "main f"), [((), ())])

    def test_memories_of_all_kinds(self):
        found = self.states("sort E = A | B | C", "node f(e: E, n: mod 2) -> (y: bool)", "y = true -> pre (e = A)", "end", "main f")
        self.assertEqual({repr(state) for state in found}, {
            repr(((one, other), ())) for one in ((), (None,)) for other in ((), (None,), (T,), (F,))})
        found = self.states("sort E = A | B | C", "node f(e: E, n: mod 2) -> (d: E, m: mod 2)", "d = pre e", "m = 0:2 fby n", "end", "main f")
        self.assertEqual({repr(state) for state in found}, {
            repr(((one, other), ())) for one in ((), (None,), ("A",), ("B",), ("C",)) for other in ((), (None,), (0,), (1,))})

    def test_states_of_calls(self):
        found = self.states("node g(x: bool) -> (y: bool)", "y = pre x", "end", "node f(x: bool) -> (y: bool)", "var a: bool",
                            "y = g(x) every a", "a = true fby x", "end", "main f")
        self.assertEqual({repr(state) for state in found}, {
            repr(((one,), (((other,), ()),))) for one in ((), (None,), (T,), (F,)) for other in ((), (None,), (T,), (F,))})

    def test_nodes_that_main_does_not_need(self):
        found = self.states("node g(n: mod 32) -> (y: mod 32)", "y = pre pre pre n", "end", "node f(x: bool) -> (y: bool)", "y = x", "end",
                            "main f")
        self.assertEqual(len(found), 1)

    def test_order_is_free_but_nothing_is_missing(self):
        for seed in range(40):
            program = Claiming(seed, groups=2).program(1 + seed % 2)
            try:
                found = {repr(state) for state in all_states(program)}
            except TooMany:
                continue
            self.assertTrue({repr(state) for state in oracle.explored(program)[0]} <= found)

    def test_4096_and_more(self):
        self.assertEqual(MAX_ALL, 4096)
        six = "y = pre pre pre pre pre pre x"
        self.assertEqual(len(self.states("node f(x: bool) -> (y: bool)", six, "end", "main f")), 4096)
        with self.assertRaises(TooMany):
            all_states(read("node f(x: bool) -> (y: bool)", six + " and pre x", "end", "main f"))
        with self.assertRaises(TooMany):
            all_states(read("node f(x: bool) -> (y: bool)", "y = true -> " + six[4:], "end", "main f"))
        wide = [f"y{k} = pre n" for k in range(20)]
        given = ", ".join(f"y{k}: mod 32" for k in range(20))
        with self.assertRaises(TooMany):
            all_states(read(f"node f(n: mod 32) -> ({given})", *wide, "end", "main f"))

    def test_calls_of_calls_are_counted_before_they_are_made(self):
        nodes = ["node f0(x: bool) -> (y: bool)", "y = pre pre pre x", "end"]
        for k in range(1, 10):
            nodes += [f"node f{k}(x: bool) -> (y: bool)", "var a: bool", f"a = f{k - 1}(x)", f"y = f{k - 1}(a)", "end"]
        self.assertEqual(len(self.states(*nodes, "main f1")), 4096)
        with self.assertRaises(TooMany):
            all_states(read(*nodes, "main f9"))
        nodes = ["node f0(x: bool) -> (y: bool)", "y = pre x", "end"]
        for k in range(1, 12):
            inner = ", ".join(f"a{n}: bool" for n in range(20))
            nodes += [f"node f{k}(x: bool) -> (y: bool)", f"var {inner}", *[f"a{n} = f{k - 1}(x)" for n in range(20)], "y = x", "end"]
        with self.assertRaises(TooMany):
            all_states(read(*nodes, "main f11"))


class InductionTest(unittest.TestCase):
    def least(self, program, claim, told):
        self.assertTrue(is_claim(program, claim))
        self.assertEqual(least_induction(program, claim, 100), told)
        for k in range(6):
            self.assertIs(is_inductive(program, claim, k), told is not None and k >= told)
            self.assertEqual(least_induction(program, claim, k), told if told is not None and told <= k else None)

    def test_by_0(self):
        self.least(LATE, late_claim("ok = true"), 0)
        self.least(LATE, late_claim("ok = x or not x"), 0)
        # From each state, also from those that cannot be reached, main and a second one of it give the same.
        self.assertEqual(verdict(LATE, late_claim("ok = y = (false fby x)"), 10)[0], "holds")

    def test_by_1(self):
        # Main and the claim may remember other values at first, but not behind an instant.
        self.least(LATE, late_claim("ok = y = (false fby x)"), 1)

    def test_by_more(self):
        value = counter(8, 3)
        claim = claim_of(value, "node c(up: bool, n: mod 8) -> (ok: bool)", "ok = n <= 3:8")
        # The states 4 to 7 give False at once, and none of them is come to from a state that gives True.
        self.assertEqual(verdict(value, claim, 100)[0], "holds")
        found = least_induction(value, claim, 100)
        self.assertEqual(found, by_words(value, claim, 100))
        value = read("node f(x: bool) -> (y: bool)", "var a: bool, b: bool, c: bool", "a = false fby (a and x)", "b = false fby a", "c = false fby b",
                     "y = c", "end", "main f")
        claim = claim_of(value, "node c(x: bool, y: bool) -> (ok: bool)", "ok = not y")
        self.assertEqual(by_words(value, claim, 20), least_induction(value, claim, 20))

    def test_by_several(self):
        for many in range(4):
            names = [f"a{k}" for k in range(many + 1)]
            lines = [f"{x} = false fby {y}" for x, y in zip(names, ["false"] + names)]
            value = read("node f(x: bool) -> (y: bool)", f"var {', '.join(x + ': bool' for x in names)}", *lines, f"y = {names[-1]}", "end", "main f")
            claim = claim_of(value, "node c(x: bool, y: bool) -> (ok: bool)", "ok = not y")
            self.least(value, claim, many + 1)

    def test_by_none(self):
        self.least(LATE, NEVER, None)
        value = counter(8, 3)
        # The states 4 to 6 can go on for ever without being told apart, and 7 is bad: the claim holds all the same.
        claim = claim_of(value, "node c(up: bool, n: mod 8) -> (ok: bool)", "ok = n <> 7:8")
        self.assertEqual(verdict(value, claim, 100)[0], "holds")
        self.least(value, claim, None)

    def test_faults(self):
        self.least(LATE, late_claim("ok = pre x"), None)
        value = read("node f(x: bool) -> (y: bool)", "y = true fby x", "end", "main f")
        # From states that remember nil there is a fault, but behind one instant none remembers it.
        self.least(value, claim_of(value, "node c(x: bool, y: bool) -> (ok: bool)", "ok = y = y"), 1)

    def test_a_break_with_few_rows(self):
        claim = late_claim("ok = not x -> true")
        self.least(LATE, claim, None)

    def test_too_many(self):
        value = read("node f(x: bool) -> (y: bool)", "y = pre pre pre pre pre pre x", "end", "main f")
        claim = claim_of(value, "node c(x: bool, y: bool) -> (ok: bool)", "ok = true")
        self.assertIs(is_inductive(value, claim, 0), True)
        more = claim_of(value, "node c(x: bool, y: bool) -> (ok: bool)", "ok = true -> true")
        for call in (lambda: is_inductive(value, more, 0), lambda: least_induction(value, more, 3)):
            with self.assertRaises(TooMany):
                call()
        wide = read("node f(n: mod 32, m: mod 9) -> (y: bool)", "y = n = n", "end", "main f")
        claim = claim_of(wide, "node c(n: mod 32, m: mod 9, y: bool) -> (ok: bool)", "ok = y")
        for call in (lambda: is_inductive(wide, claim, 0), lambda: least_induction(wide, claim, 3)):
            with self.assertRaises(TooMany):
                call()
        fewer = read("node f(n: mod 32, m: mod 8) -> (y: bool)", "y = n = n", "end", "main f")
        claim = claim_of(fewer, "node c(n: mod 32, m: mod 8, y: bool) -> (ok: bool)", "ok = y")
        self.assertIs(is_inductive(fewer, claim, 0), True)

    def test_large_bounds(self):
        value = counter(8, 3)
        claim = claim_of(value, "node c(up: bool, n: mod 8) -> (ok: bool)", "ok = n <> 7:8")
        self.assertIsNone(least_induction(value, claim, 10 ** 9))
        self.assertIs(is_inductive(value, claim, 10 ** 9), False)
        self.assertIs(is_inductive(LATE, late_claim("ok = y = (false fby x)"), 10 ** 9), True)

    def test_second_reckoning(self):
        told = {}
        for seed in range(160):
            maker = Claiming(seed, nil=0.03, groups=2)
            program = maker.program(1)
            claim = maker.claim(program) if seed % 4 else same_again(program)
            try:
                states = all_states(observed(program, claim))
            except TooMany:
                continue
            if len(states) * len(oracle.rows_of(program)) > 1500:
                continue
            found = least_induction(program, claim, 10)
            self.assertEqual(found, by_words(program, claim, 10), seed)
            if found is not None:
                self.assertEqual(verdict(program, claim, 5000)[0], "holds")
            told[found] = told.get(found, 0) + 1
        self.assertGreater(min(told[None], told[0], told[1]), 5)


def by_words(program, claim, bound):
    """The least k of [10.5], by way of runs from all states: for each state the lengths of runs that are bad at their end."""
    whole = observed(program, claim)
    rows = oracle.rows_of(whole)
    numbers = {repr(state): k for k, state in enumerate(all_states(whole))}
    table = [[instant(whole, state, row) for row in rows] for state in all_states(whole)]
    good = [{numbers[repr(told[1])] for told in row if told is not None and told[0] == (T,)} for row in table]
    late = [{k for k, row in enumerate(table) if any(told is None or told[0] != (T,) for told in row)}]
    for _ in range(bound):
        late.append({k for k in range(len(table)) if good[k] & late[-1]})
    first = numbers[repr(beginning(whole))]
    for k in range(bound + 1):
        if not late[k] and not any(first in late[j] for j in range(k)):
            return k
    return None


class WordsTest(unittest.TestCase):
    """[10.5] itself, for small k: [10.6] says the same."""

    def test_runs_from_all_states(self):
        for seed in range(40):
            maker = Claiming(seed, nil=0.1, groups=1)
            program = maker.program(1)
            claim = maker.claim(program)
            try:
                whole = observed(program, claim)
                if len(all_states(whole)) * len(oracle.rows_of(whole)) > 120:
                    continue
            except TooMany:
                continue
            for k in range(3):
                self.assertIs(is_inductive(program, claim, k), self.is_inductive(whole, k), (seed, k))

    def is_inductive(self, whole, k):
        rows = oracle.rows_of(whole)
        for many in range(1, k + 1):
            for way in itertools.product(rows, repeat=many):
                told = self.told(whole, beginning(whole), way)
                if all(told[:-1]) and not told[-1] and len(told) == many:
                    return False
        for state in all_states(whole):
            for way in itertools.product(rows, repeat=k + 1):
                told = self.told(whole, state, way)
                if len(told) == k + 1 and all(told[:-1]) and not told[-1]:
                    return False
        return True

    def told(self, whole, state, way):
        """Whether each instant of a run gives True, up to the first one that does not."""
        found = []
        for row in way:
            told = instant(whole, state, row)
            found.append(told is not None and same(told[0], (T,)))
            if not found[-1]:
                break
            state = told[1]
        return found


if __name__ == "__main__":
    unittest.main()
