"""[10.1] to [10.4]: claims, observed programs, verdicts, closed sets and breaks."""

import itertools
import unittest

from everytick.causality import is_right
from everytick.claims import is_break, is_claim, is_closed, observed, verdict
from everytick.errors import TooMany
from everytick.meaning import beginning, instant, is_row, is_state, run
from everytick.program_texts import read_program
from everytick.programs import is_program
from tests import finite_oracle as oracle
from tests.claiming import Claiming, same_again
from tests.samples import ODD_VALUES, X, Y, nested_value, paths, replaced, same, value_at
from tests.test_any_value import spoilt_plainly

T, F = True, False
LATE = read_program("node late(x: bool) -> (y: bool)\ny = false fby x\nend\nmain late")
NEVER = ("never", (("x", "bool"), ("y", "bool")), (("ok", "bool"),), (), ((("ok",), ("not", Y)),))


def read(*lines):
    return read_program("\n".join(lines))


def claim_of(program, *lines):
    """The last node of a text of sorts and nodes; it may call the nodes of the program."""
    sorts = [f"sort {name} = " + " | ".join(row) for name, row in program[0]]
    return read(*sorts, *lines, "end", f"main {program[2]}")[1][-1]


def late_claim(*lines, inner=""):
    return claim_of(LATE, "node c(x: bool, y: bool) -> (ok: bool)", *([f"var {inner}"] if inner else []), *lines)


class IsClaimTest(unittest.TestCase):
    """[10.1]"""

    def good(self, program, value):
        self.assertIs(is_claim(program, value), True)
        self.assertTrue(is_right(observed(program, value)) and is_program(observed(program, value)))

    def bad(self, program, *values):
        for value in values:
            self.assertIs(is_claim(program, value), False, value)

    def test_claims(self):
        self.good(LATE, NEVER)
        self.good(LATE, late_claim("ok = y = (false fby x)"))
        self.good(LATE, late_claim("ok = merge x (false -> not a) (true -> true)", "a = y when not x", inner="a: bool"))
        self.good(LATE, late_claim("ok = a = y", "a = late(x) every false -> pre x", inner="a: bool"))

    def test_names(self):
        two = read("node g(x: bool) -> (y: bool)", "y = x", "end", "node late(x: bool) -> (y: bool)", "y = false fby x", "end", "main late")
        self.good(two, NEVER)
        for name in ("g", "late"):
            self.bad(two, (name,) + NEVER[1:])
        self.good(two, ("x",) + NEVER[1:])
        for name in ("", "G", "1a", "node", "toolongname", None, 3, ("c",)):
            self.bad(two, (name,) + NEVER[1:])

    def test_inputs(self):
        name, (x, y), outputs, inner, body = NEVER
        for inputs in ((), (x,), (y, y), (x, y, ("z", "bool")), (x, ("y", ("mod", 2))), (("x", ("mod", 2)), y), (x, ("x", "bool")),
                       (x, ("ok", "bool")), (x, ("y", "Bool")), (x, ("y",)), (x, "y"), None):
            self.bad(LATE, (name, inputs, outputs, inner, body))
        self.good(LATE, (name, (("a", "bool"), y), outputs, inner, body))
        value = read("sort E = A | B", "sort D = C | G", "node f(e: E) -> (y: mod 3, b: bool)", "y = 1:3", "b = e = A", "end", "main f")
        self.good(value, claim_of(value, "node c(e: E, n: mod 3, b: bool) -> (ok: bool)", "ok = b or e = B"))
        self.bad(value, claim_of(value, "node c(e: D, n: mod 3, b: bool) -> (ok: bool)", "ok = b"))
        self.bad(value, claim_of(value, "node c(e: E, b: bool, n: mod 3) -> (ok: bool)", "ok = b"))
        self.bad(value, claim_of(value, "node c(n: mod 3, b: bool, e: E) -> (ok: bool)", "ok = b"))

    def test_outputs(self):
        self.bad(LATE, claim_of(LATE, "node c(x: bool, y: bool) -> (ok: mod 2)", "ok = 1:2"),
                 claim_of(LATE, "node c(x: bool, y: bool) -> (ok: bool, z: bool)", "ok = x", "z = x"),
                 NEVER[:2] + ((),) + NEVER[3:])

    def test_state_machines(self):
        self.bad(LATE, late_claim("states", "state A", "ok = x", "state B", "ok = y", "end"))

    def test_what_is_not_right(self):
        self.bad(LATE, late_claim("ok = z"), late_claim("ok = x = 1:2"), late_claim("x = y", "ok = true"), late_claim("ok = true", "ok = x"),
                 late_claim("ok = x", inner="a: bool"), late_claim("ok = other(x)"), late_claim("ok = c(x, y)"), late_claim("ok = late(x, y)"),
                 late_claim("ok = x when y"), late_claim("ok = x and ok"), late_claim("ok = a", "a = ok", inner="a: bool"))

    def test_the_observer_cannot_be_called(self):
        for name in ("see", "see0", "see1", "main", "top", "watch", observed(LATE, NEVER)[2]):
            self.bad(LATE, ("c",) + NEVER[1:4] + (((("ok",), ("call", name, (X,), None)),),))

    def test_sorts_and_constants_of_the_program(self):
        self.bad(LATE, NEVER[:4] + (((("ok",), ("eq", ("const", "A", ("sort", "E")), ("const", "A", ("sort", "E")))),),))

    def test_bounds(self):
        many = ", ".join(f"x{k}: bool" for k in range(11))
        value = read(f"node f({many}) -> (y: bool)", "y = x0", "end", "main f")
        self.good(value, claim_of(value, f"node c({many}, y: bool) -> (ok: bool)", "ok = y"))
        value = read(f"node f({many}, x: bool) -> (y: bool)", "y = x0", "end", "main f")
        self.bad(value, claim_of(value, f"node c({many}, x: bool, y: bool) -> (ok: bool)", "ok = y"))
        given = ", ".join(f"y{k}: bool" for k in range(9))
        value = read(f"node f(x: bool) -> ({given})", *[f"y{k} = x" for k in range(9)], "end", "main f")
        self.bad(value, claim_of(value, f"node c(x: bool, {given}) -> (ok: bool)", "ok = y1"))
        given = given.replace(", y8: bool", "")
        value = read(f"node f(x: bool) -> ({given})", *[f"y{k} = x" for k in range(8)], "end", "main f")
        self.good(value, claim_of(value, f"node c(x: bool, {given}) -> (ok: bool)", "ok = y1"))
        for count, told in ((10, True), (11, False), (12, False)):
            nodes = [line for k in range(count) for line in (f"node f{k}(x: bool) -> (y: bool)", "y = x", "end")]
            self.assertIs(is_claim(read(*nodes, "main f3"), NEVER), told)

    def test_deep_and_large_claims(self):
        deep = Y
        for _ in range(19):
            deep = ("not", deep)
        self.good(LATE, NEVER[:4] + (((("ok",), deep),),))
        self.bad(LATE, NEVER[:4] + (((("ok",), ("not", deep)),),))

    def test_any_values(self):
        self.bad(LATE, *ODD_VALUES, nested_value(100), LATE, LATE[1][0], NEVER[:4], NEVER + ((),), list(NEVER))
        good = late_claim("ok = merge x (false -> a) (true -> true)", "a = y when not x", inner="a: bool")
        for value in spoilt_plainly(good):
            self.assertIs(type(is_claim(LATE, value)), bool)


class ObservedTest(unittest.TestCase):
    """[10.2]"""

    def test_nodes_and_equations(self):
        two = read("node g(x: bool) -> (y: bool)", "y = x", "end", "node late(x: bool, n: mod 3) -> (y: bool, m: mod 3)", "y = false fby x",
                   "m = n", "end", "main late")
        claim = claim_of(two, "node c(a: bool, b: mod 3, y: bool, z: mod 3) -> (ok: bool)", "ok = b = z")
        sorts, nodes, main = observed(two, claim)
        self.assertEqual(sorts, two[0])
        self.assertEqual(nodes[:3], two[1] + (claim,))
        self.assertEqual(len(nodes), 4)
        name, inputs, outputs, inner, body = nodes[3]
        self.assertEqual(main, name)
        self.assertEqual([kind for _, kind in inputs], ["bool", ("mod", 3)])
        self.assertEqual([kind for _, kind in outputs], ["bool"])
        (one, first), (other, second) = body
        self.assertEqual(first, ("call", "late", tuple(("var", x) for x, _ in inputs), None))
        self.assertEqual(second, ("call", "c", first[2] + tuple(("var", x) for x in one), None))
        self.assertEqual((len(one), other), (2, (outputs[0][0],)))
        self.assertEqual([x for x, _ in inner], list(one))

    def test_no_name_comes_twice(self):
        value = LATE
        names = ["late"]
        for _ in range(6):
            whole = observed(value, NEVER)
            names = [node[0] for node in whole[1]]
            self.assertEqual(len(set(names)), len(names))
            # The next program has a node with the name that the observer had.
            extra = (names[-1],) + value[1][0][1:]
            value = (value[0], (extra,) + value[1], value[2])
            if not is_program(value) or len(value[1]) > 9:
                break
            self.assertTrue(is_claim(value, NEVER))
        name = observed(LATE, NEVER)[2]
        claim = (name,) + NEVER[1:]
        self.assertTrue(is_claim(LATE, claim))
        self.assertNotEqual(observed(LATE, claim)[2], name)

    def test_variables_of_main_that_have_the_names_of_the_observer(self):
        whole = observed(LATE, NEVER)
        told = whole[1][-1][2][0][0]
        value = read(f"node late({told}: bool) -> (y: bool)", f"y = false fby {told}", "end", "main late")
        self.assertTrue(is_claim(value, NEVER))
        self.assertTrue(is_right(observed(value, NEVER)))

    def test_meaning(self):
        self.assertEqual(run(observed(LATE, NEVER), ((T,), (F,), (F,))), (((T,), (F,), (T,)), None))


class VerdictTest(unittest.TestCase):
    """[10.3], [10.4]"""

    def broken(self, program, claim, rows):
        word, found = verdict(program, claim, 1000)
        self.assertEqual(word, "broken")
        self.assertTrue(same(found, rows), found)
        self.assertTrue(is_break(program, claim, rows))

    def holds(self, program, claim, many):
        word, states = verdict(program, claim, 1000)
        self.assertEqual(word, "holds")
        self.assertEqual(len(states), many)
        self.assertTrue(same(states, tuple(oracle.explored(observed(program, claim))[0])))
        self.assertTrue(is_closed(program, claim, states))

    def test_example(self):
        self.assertEqual(verdict(LATE, NEVER, 10), ("broken", ((T,), (F,))))

    def test_claims_that_hold(self):
        self.holds(LATE, late_claim("ok = y = (false fby x)"), 3)
        self.holds(LATE, late_claim("ok = true"), 3)
        self.holds(LATE, late_claim("ok = a = y", "a = late(x)", inner="a: bool"), 3)
        value = read("node f(n: mod 8) -> (m: mod 8)", "m = n + n", "end", "main f")
        self.holds(value, claim_of(value, "node c(n: mod 8, m: mod 8) -> (ok: bool)", "ok = m - n = n"), 1)

    def test_false_at_once(self):
        self.broken(LATE, late_claim("ok = false"), ((F,),))
        self.broken(LATE, late_claim("ok = x"), ((F,),))
        self.broken(LATE, late_claim("ok = not x"), ((T,),))

    def test_false_late(self):
        value = read("node f(up: bool) -> (n: mod 8)", "n = 0:8 -> pre (n + (if up then 1:8 else 0:8))", "end", "main f")
        claim = claim_of(value, "node c(up: bool, n: mod 8) -> (ok: bool)", "ok = n < 7:8 or up")
        self.broken(value, claim, ((T,),) * 7 + ((F,),))

    def test_of_several_shortest_the_first(self):
        value = read("node f(n: mod 4) -> (m: mod 4)", "m = n", "end", "main f")
        claim = claim_of(value, "node c(n: mod 4, m: mod 4) -> (ok: bool)", "ok = n <> 1:4 -> not (pre n + n = 3:4 and pre n <> 0:4)")
        self.broken(value, claim, ((1,),))
        claim = claim_of(value, "node c(n: mod 4, m: mod 4) -> (ok: bool)", "ok = true -> not (pre n + n = 3:4 and pre n <> 0:4)")
        self.broken(value, claim, ((1,), (2,)))

    def test_faults(self):
        self.broken(LATE, late_claim("ok = pre x"), ((F,),))
        self.broken(LATE, late_claim("ok = if x then pre (true -> pre x) or true else true"), ((T,),))
        value = read("node f(x: bool) -> (y: bool)", "y = if x then pre x else true", "end", "main f")
        claim = claim_of(value, "node c(x: bool, y: bool) -> (ok: bool)", "ok = y = y")
        self.broken(value, claim, ((T,),))
        # An output of main is nil, but nobody needs it: that is no fault of the observed program.
        claim = claim_of(value, "node c(x: bool, y: bool) -> (ok: bool)", "ok = true")
        self.holds(value, claim, 3)

    def test_false_and_a_fault_are_broken_at_the_same_instant(self):
        self.broken(LATE, late_claim("ok = if x then pre x else false"), ((F,),))
        self.broken(LATE, late_claim("ok = if x then false else pre x"), ((F,),))
        self.broken(LATE, late_claim("ok = if x then false else true"), ((T,),))

    def test_states_behind_a_break_count_for_the_limit(self):
        value = read("node f(up: bool) -> (n: mod 8)", "n = 0:8 -> pre (n + (if up then 1:8 else 0:8))", "end", "main f")
        claim = claim_of(value, "node c(up: bool, n: mod 8) -> (ok: bool)", "ok = not up")
        self.assertEqual(verdict(value, claim, 9), ("broken", ((T,),)))
        with self.assertRaises(TooMany):
            verdict(value, claim, 8)

    def test_limits(self):
        claim = late_claim("ok = y = (false fby x)")
        self.assertEqual(verdict(LATE, claim, 3)[0], "holds")
        for limit in (1, 2):
            with self.assertRaises(TooMany):
                verdict(LATE, claim, limit)
        value = read("node f(n: mod 32, m: mod 9) -> (y: bool)", "y = n = n", "end", "main f")
        with self.assertRaises(TooMany):
            verdict(value, claim_of(value, "node c(n: mod 32, m: mod 9, y: bool) -> (ok: bool)", "ok = y"), 1000)

    def test_second_reckoning(self):
        told = {"holds": 0, "broken": 0}
        for seed in range(60):
            maker = Claiming(seed, nil=0.03, groups=2)
            program = maker.program(1 + seed % 2)
            claim = maker.claim(program) if seed % 4 else same_again(program)
            if len(oracle.rows_of(program)) > 30:
                continue
            self.assertTrue(is_claim(program, claim), seed)
            try:
                word, found = verdict(program, claim, 60)
            except TooMany:
                continue
            told[word] += 1
            states, table = oracle.explored(observed(program, claim))
            if word == "holds":
                self.assertTrue(same(found, tuple(states)))
                self.assertTrue(all(entry is not None and entry[0] == (True,) for row in table for entry in row))
                self.assertTrue(is_closed(program, claim, found))
            else:
                self.assertFalse(is_closed(program, claim, tuple(states)))
                self.assertTrue(is_break(program, claim, found))
                self.assertTrue(same(found, first_break(program, table, len(found))))
        self.assertGreater(min(told.values()), 12)


def first_break(program, table, most):
    """The first break, by way of all tuples of numbers of rows."""
    rows = oracle.rows_of(program)
    for many in range(1, most + 1):
        for way in itertools.product(range(len(rows)), repeat=many):
            outputs = oracle.run((rows, table), 0, way)
            if len(outputs) == many and outputs[:-1] == ((T,),) * (many - 1) and outputs[-1] in (None, (F,)):
                return tuple(rows[r] for r in way)
    return None


class ClosedTest(unittest.TestCase):
    """[10.4] for any value."""

    def setUp(self):
        self.claim = late_claim("ok = y = (false fby x)")
        self.states = verdict(LATE, self.claim, 10)[1]

    def bad(self, *values):
        for value in values:
            self.assertIs(is_closed(LATE, self.claim, value), False, value)

    def test_order_does_not_matter(self):
        for states in itertools.permutations(self.states):
            self.assertIs(is_closed(LATE, self.claim, states), True)

    def test_left_out_and_twice(self):
        for k in range(3):
            self.bad(self.states[:k] + self.states[k + 1:], self.states + self.states[k:k + 1])
        self.bad((), self.states[:1], list(self.states))

    def test_more_states(self):
        def state(main, claim):
            return ((), (((main,), ()), ((claim,), ())))

        self.assertIn(state((True,), (True,)), self.states)
        self.assertTrue(is_closed(LATE, self.claim, self.states + (state((), (False,)),)))
        self.bad(self.states + (state((True,), (False,)),), self.states + (state((None,), (True,)),))
        # A state from which main gives nil is a fault at once, as the claim compares it.
        self.bad(self.states + (state((None,), (None,)),))

    def test_true_in_the_place_of_1(self):
        value = read("node f(n: mod 2) -> (m: mod 2)", "m = 0:2 fby n", "end", "main f")
        claim = claim_of(value, "node c(n: mod 2, m: mod 2) -> (ok: bool)", "ok = true")
        states = verdict(value, claim, 10)[1]
        self.assertTrue(is_closed(value, claim, states))
        for path in paths(states):
            part = value_at(states, path)
            if part in (0, 1) and part != ():
                self.assertIs(is_closed(value, claim, replaced(states, path, bool(part))), False)
                self.assertIs(is_closed(value, claim, states + (replaced(states, path, bool(part))[path[0]],)), False)

    def test_any_values(self):
        self.bad(*ODD_VALUES, nested_value(100), ((),), (((), ()),), (beginning(LATE),))
        for value in spoilt_plainly(self.states):
            told = is_closed(LATE, self.claim, value)
            self.assertIs(type(told), bool)
            self.assertEqual(told, closed_by_words(LATE, self.claim, value), value)

    def test_a_claim_that_is_broken_has_none(self):
        states = tuple(oracle.explored(observed(LATE, NEVER))[0])
        for many in range(1, 4):
            for some in itertools.permutations(states, many):
                self.assertIs(is_closed(LATE, NEVER, some), False)

    def test_more_than_256_rows(self):
        value = read("node f(n: mod 32, m: mod 9) -> (y: bool)", "y = n = n", "end", "main f")
        claim = claim_of(value, "node c(n: mod 32, m: mod 9, y: bool) -> (ok: bool)", "ok = y")
        whole = observed(value, claim)
        self.assertIs(is_closed(value, claim, (beginning(whole),)), True)
        claim = claim_of(value, "node c(n: mod 32, m: mod 9, y: bool) -> (ok: bool)", "ok = n <> 31:32 or m <> 8:9")
        self.assertIs(is_closed(value, claim, (beginning(whole),)), False)
        self.assertIs(is_break(value, claim, ((31, 8),)), True)


def closed_by_words(program, claim, value):
    """[10.4] word by word, by way of instants."""
    whole = observed(program, claim)
    if type(value) is not tuple or not all(is_state(whole, state) for state in value):
        return False
    if any(same(value[a], value[b]) for a in range(len(value)) for b in range(a)):
        return False
    if not any(same(state, beginning(whole)) for state in value):
        return False
    for state in value:
        for row in oracle.rows_of(whole):
            told = instant(whole, state, row)
            if told is None or told[0] != (True,) or not any(same(told[1], other) for other in value):
                return False
    return True


class BreakTest(unittest.TestCase):
    """[10.3] for any value."""

    def good(self, claim, value, program=LATE):
        self.assertIs(is_break(program, claim, value), True)

    def bad(self, claim, *values, program=LATE):
        for value in values:
            self.assertIs(is_break(program, claim, value), False, value)

    def test_breaks_of_any_length(self):
        self.good(NEVER, ((T,), (F,)))
        self.good(NEVER, ((T,), (T,)))
        self.good(NEVER, ((F,), (F,), (T,), (F,)))

    def test_what_goes_on_behind_its_end(self):
        self.bad(NEVER, ((T,), (F,), (F,)), ((T,), (T,), (T,)))

    def test_what_ends_too_early_or_never(self):
        self.bad(NEVER, ((T,),), ((F,),), ((F,), (F,)), ())
        self.bad(late_claim("ok = true"), ((T,),), ((T,), (T,)))

    def test_faults(self):
        claim = late_claim("ok = if x then true else pre x")
        self.good(claim, ((F,),))
        self.bad(claim, ((T,), (F,)), ((F,), (F,)), ((T,), (T,), (F,)))
        claim = late_claim("ok = true -> (if x then pre pre x else true)")
        self.good(claim, ((F,), (T,)))
        self.good(claim, ((T,), (T,)))
        self.good(claim, ((F,), (F,), (T,)))
        self.bad(claim, ((T,), (F,), (T,)))

    def test_rows_of_another_form(self):
        value = read("node f(n: mod 2) -> (m: mod 2)", "m = n", "end", "main f")
        claim = claim_of(value, "node c(n: mod 2, m: mod 2) -> (ok: bool)", "ok = n = 0:2")
        self.good(claim, ((1,),), program=value)
        self.bad(claim, ((T,),), (1,), ((2,),), ((1, 1),), [(1,)], ([1],), ((0,), (T,)), ((F,), (1,)), ("1",), program=value)

    def test_any_values(self):
        self.bad(NEVER, *ODD_VALUES, nested_value(100))
        for value in spoilt_plainly(((F,), (T,), (F,))):
            self.assertIs(is_break(LATE, NEVER, value), break_by_words(LATE, NEVER, value), value)


def break_by_words(program, claim, value):
    whole = observed(program, claim)
    if type(value) is not tuple or not value or not all(is_row(whole, row) for row in value):
        return False
    outputs, fault = run(whole, value)
    if fault is not None:
        return fault == len(value) - 1 and all(row == (True,) for row in outputs)
    return all(row == (True,) for row in outputs[:-1]) and outputs[-1] == (False,)


if __name__ == "__main__":
    unittest.main()
