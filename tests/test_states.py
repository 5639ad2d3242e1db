"""[6.1], [6.2], [6.5]: the rules that blocks keep to, and the translation of blocks."""

import unittest

from everytick.causality import is_right
from everytick.kinds import fits
from everytick.meaning import run
from everytick.printing import print_program
from everytick.program_texts import read_program
from everytick.programs import is_great, is_program, is_small
from everytick.states import are_blocks, has_blocks, translated
from tests import meaning_oracle
from tests.righting import Righting
from tests.samples import TRUE, X, block, node, number, program, same, state

T, F = True, False

GOOD = """node g(a: bool) -> (b: bool)
b = true fby a
end
node f(x: bool, z: bool) -> (y: bool, w: bool)
var p: bool, q: bool
states
state A
unless x and not z then B
y = g(x) every z
p = not (y -> pre p)
until p or y continue B
state B
p = x
y = pre y -> p
until if x then p else z then A
until w then B
end
w = y
q = false fby y
end
main f"""


def spoilt(before, after, text=GOOD):
    assert text.count(before) == 1, before
    return read_program(text.replace(before, after))


class RulesTest(unittest.TestCase):
    """[6.1], [6.2]"""

    def good(self, value):
        self.assertIs(are_blocks(value), True)

    def bad(self, value):
        self.assertIs(are_blocks(value), False)

    def test_has_blocks(self):
        self.assertIs(has_blocks(read_program(GOOD)), True)
        text = "node f(x: bool) -> (y: bool)\ny = x\nend\n"
        self.assertIs(has_blocks(read_program(text + "main f")), False)
        machine = "node g(x: bool) -> (y: bool)\nstates\nstate A\ny = x\nstate B\ny = x\nend\nend\n"
        self.assertIs(has_blocks(read_program(text + machine + "main f")), True)
        self.assertIs(has_blocks(read_program(machine + text + "main f")), True)

    def test_good_blocks(self):
        self.good(read_program(GOOD))
        self.good(read_program("node f(x: bool) -> (y: bool)\ny = x\nend\nmain f"))
        self.assertTrue(is_right(translated(read_program(GOOD))))

    def test_what_states_define(self):
        self.bad(spoilt("p = x\n", ""))
        self.bad(spoilt("p = x\n", "q = x\n"))
        self.bad(spoilt("p = x\n", "p = x\np = z\n"))
        self.bad(spoilt("p = x\n", "p = x\ny = z\n"))
        self.bad(spoilt("p = x\n", "p = x\nw = z\n"))
        empty = program(node([block(state("A"), state("B")), (("y",), X)]))
        self.bad(empty)
        self.bad(program(node([block(state("A", [(("y",), X)]), state("B"))])))

    def test_what_is_defined_by_calls(self):
        right = ("call", "g", (X,), None)
        inner = [("z", "bool")]
        one = state("A", [(("y", "z"), right)])
        self.good(program(node([block(one, state("B", [(("z",), X), (("y",), X)]))], inner=inner)))
        self.bad(program(node([block(one, state("B", [(("y",), X)]))], inner=inner)))
        self.bad(program(node([block(one, state("B", [(("y", "y"), right), (("z",), X)]))], inner=inner)))
        self.bad(program(node([block(one, state("B", [(("y", "z"), right)])), (("y", "q"), right)],
                              inner=inner + [("q", "bool")])))

    def test_only_outputs_and_locals_are_defined(self):
        self.bad(read_program(GOOD.replace("p = ", "x = ")))
        self.bad(read_program(GOOD.replace("p = ", "k = ")))

    def test_nothing_outside_defines_them(self):
        self.bad(spoilt("w = y\n", "w = y\np = x\n"))
        self.bad(spoilt("w = y\n", "w = y\n(y, q) = g(x)\n"))
        more = "states\nstate A\n{} = x\nstate B\n{} = x\nend\nend\nmain f"
        self.good(spoilt("w = y\nq = false fby y\nend\nmain f", "w = y\n" + more.format("q", "q")))
        self.bad(spoilt("w = y\nq = false fby y\nend\nmain f", "w = y\n" + more.format("p", "p")))
        # The same block twice: each of them defines what the other one does.
        one = block(state("A", [(("y",), X)]), state("B", [(("y",), X)]))
        self.bad(program(node([one, one])))
        self.good(program(node([one])))

    def test_conditions_have_no_memories_and_no_samplers(self):
        for text in ("pre z", "false -> z", "false fby z", "z when x", "merge x (false -> z) (true -> z)",
                     "not (x and pre z)", "if x then z else (false fby z)"):
            self.bad(spoilt("unless x and not z", f"unless {text}"))
            self.bad(spoilt("until p or y", f"until {text}"))
            self.bad(spoilt("until w then", f"until {text} then"))

    def test_transitions_lead_to_states_of_the_block(self):
        self.bad(spoilt("not z then B", "not z then C"))
        self.bad(spoilt("or y continue B", "or y continue C"))
        self.bad(spoilt("until w then B", "until w then Color"))
        self.good(spoilt("until w then B", "until w then A"))
        other = "states\nstate C\nq = x\nuntil x then A\nstate D\nq = x\nend\nend\nmain f"
        self.bad(spoilt("q = false fby y\nend\nmain f", other))
        self.good(spoilt("q = false fby y\nend\nmain f", other.replace("then A", "then D")))

    def test_no_samplers_in_equations(self):
        for text in ("x when z", "merge x (false -> z) (true -> z)", "not (merge x (false -> z) (true -> z))",
                     "pre (x when z)", "x fby (true -> z when x)"):
            self.bad(spoilt("p = x\n", f"p = {text}\n"))
            self.bad(spoilt("g(x) every z", f"g({text}) every z"))
            self.bad(spoilt("g(x) every z", f"g(x) every {text}"))
        self.good(spoilt("q = false fby y", "q = merge x (false -> y when not x) (true -> true)"))

    def test_unless_has_no_variables_of_the_block(self):
        for text in ("y", "p", "not y", "x and (z or p)", "if x then y else z", "true = p"):
            self.bad(spoilt("unless x and not z", f"unless {text}"))
        self.good(spoilt("until p or y", "until p and y and w and q"))

    def test_unless_needs_no_variables_of_the_block(self):
        self.good(spoilt("unless x and not z", "unless q"))
        self.bad(spoilt("unless x and not z", "unless w"))
        self.bad(spoilt("q = false fby y", "q = x and not y",
                        GOOD.replace("unless x and not z", "unless q")))
        self.bad(spoilt("q = false fby y", "q = w fby x", GOOD.replace("unless x and not z", "unless x or q")))
        self.bad(spoilt("q = false fby y", "q = g(w)", GOOD.replace("unless x and not z", "unless q")))
        self.bad(spoilt("q = false fby y", "q = g(x) every y", GOOD.replace("unless x and not z", "unless q")))
        self.good(spoilt("q = false fby y", "q = g(pre y)", GOOD.replace("unless x and not z", "unless q")))
        self.bad(spoilt("q = false fby y", "q = merge w (false -> true) (true -> false)",
                        GOOD.replace("unless x and not z", "unless q")))

    def test_unless_needs_none_of_them_by_way_of_another_block(self):
        text = GOOD.replace("unless x and not z", "unless q")
        other = "states\nstate A\n{}q = {}\nstate B\nq = x\nend\nend\nmain f"
        end = "q = false fby y\nend\nmain f"
        self.good(spoilt(end, other.format("", "z"), text))
        self.bad(spoilt(end, other.format("", "w"), text))
        self.bad(spoilt(end, other.format("", "g(y)"), text))
        self.bad(spoilt(end, other.format("unless p then B\n", "z"), text))
        self.good(spoilt(end, other.format("unless z then B\n", "z"), text))

    def test_kinds_and_clocks_do_not_matter(self):
        self.good(spoilt("p = x\n", "p = 3:8\n"))
        self.good(spoilt("unless x and not z", "unless 3:8"))
        self.good(spoilt("q = false fby y", "q = x when z", GOOD.replace("p = x\n", "p = q\n")))
        self.good(spoilt("g(x) every z", "nosuch(x, x) every z"))

    def test_every_block_of_every_node_counts(self):
        bad = "states\nstate A\nb = b when a\nstate B\nb = a\nend\n"
        self.bad(spoilt("b = true fby a\n", bad))
        self.good(spoilt("b = true fby a\n", bad.replace("b when a", "pre b")))
        one = block(state("A", [(("y",), X)]), state("B", [(("y",), X)]))
        two = block(state("A", [(("z",), X)]), state("B", [(("z",), ("when", X, "x", True))]))
        self.bad(program(node([one, two], inner=[("z", "bool")])))
        self.bad(program(node([two, one], inner=[("z", "bool")])))

    def test_random_programs(self):
        for seed in range(100):
            self.good(Righting(seed, blocks=0.5).program(2))


def parts_of_translation(before, after):
    """The new sorts, the new nodes, and the last node, of a program with all its blocks in the last node."""
    sorts, nodes, main = after
    assert main == before[2]
    assert sorts[:len(before[0])] == before[0]
    assert nodes[:len(before[1]) - 1] == before[1][:-1]
    return sorts[len(before[0]):], nodes[len(before[1]) - 1:-1], nodes[-1]


class FormTest(unittest.TestCase):
    """[6.5]"""

    def test_a_program_without_blocks_stays(self):
        for seed in range(20):
            value = Righting(seed).program(2)
            self.assertTrue(same(translated(value), value))

    def test_new_sorts_and_nodes(self):
        value = read_program("sort Color = Red | Blue\n" + GOOD)
        sorts, nodes, top = parts_of_translation(value, translated(value))
        self.assertEqual([len(row) for _, row in sorts], [2])
        self.assertEqual([row[1:] for row in nodes], [
            ((("x", "bool"), ("z", "bool")), (("y", "bool"), ("p", "bool")), (), value[1][1][4][0][1][0][1]),
            ((("x", "bool"),), (("y", "bool"), ("p", "bool")), (), value[1][1][4][0][1][1][1])])
        self.assertEqual(top[:3], value[1][1][:3])
        self.assertEqual(top[3][:2], value[1][1][3])
        self.assertEqual(top[4][-2:], value[1][1][4][-2:])

    def test_inputs_of_new_nodes(self):
        text = ("node f(d: mod 3, c: bool) -> (b: bool, a: mod 4)\nvar w: bool, v: mod 4, u: bool\nu = c\nw = pre u\nstates\n"
                "state A\nv = 1:4 fby v\na = if w and not c then 1:4 else pre a\nstate B\na = v\n"
                "v = if d = 2:3 and u and b then 0:4 else pre a -> 1:4\nend\nb = c\nend\nmain f")
        value = read_program(text)
        self.assertTrue(fits(value))
        _, nodes, _ = parts_of_translation(value, translated(value))
        self.assertEqual(nodes[0][1:3], ((("c", "bool"), ("w", "bool")), (("a", ("mod", 4)), ("v", ("mod", 4)))))
        self.assertEqual(nodes[1][1:3], (
            (("d", ("mod", 3)), ("b", "bool"), ("u", "bool")), (("a", ("mod", 4)), ("v", ("mod", 4)))))

    def test_equations_stand_in_the_place_of_the_block(self):
        first, second, third = (("p",), X), (("q",), ("not", X)), (("r",), TRUE)
        one = block(state("A", [(("y",), X)]), state("B", [(("y",), ("not", X))]))
        two = block(*[state(name, [(("z",), X)]) for name in "ABC"])
        value = program(node([first, one, second, two, third], inner=[(x, "bool") for x in "pqrz"]))
        sorts, nodes, top = parts_of_translation(value, translated(value))
        self.assertEqual(([len(row) for _, row in sorts], len(nodes)), ([2, 3], 5))
        body = list(top[4])
        places = [body.index(row) for row in (first, second, third)]
        self.assertEqual((places[0], places[2]), (0, len(body) - 1))
        self.assertTrue(1 < places[1] < len(body) - 2)
        between = [x for names, _ in body[1:places[1]] for x in names]
        self.assertTrue("y" in between and "z" not in between)
        self.assertEqual(top[3][:4], value[1][0][3])
        defined = sorted(x for names, _ in body for x in names)
        self.assertEqual(defined, sorted(x for row in top[2:4] for x, _ in row))

    def test_nodes_stand_before_their_node(self):
        one = block(state("A", [(("y",), X)]), state("B", [(("y",), ("not", X))]))
        value = program(node([one], name="a"), node([(("y",), X)], name="b"), node([one], name="c"), main="b")
        names = [row[0] for row in translated(value)[1]]
        self.assertEqual([names.index(x) for x in "abc"], [2, 3, 6])
        self.assertEqual(translated(value)[2], "b")

    def test_it_is_right_and_has_no_blocks(self):
        checked = 0
        for seed in range(150):
            value = Righting(seed, blocks=0.6).program(1 + seed % 3)
            after = translated(value)
            self.assertIs(has_blocks(after), False)
            self.assertIs(is_right(after), True)
            self.check_names(value, after)
            many = max(len(row[1] + row[2] + row[3]) for row in after[1])
            if len(after[0]) <= 8 and len(after[1]) <= 12 and many <= 24:
                self.assertIs(is_program(after), True)
                self.assertTrue(same(read_program(print_program(after)), after))
                checked += 1
        self.assertGreater(checked, 30)

    def check_names(self, before, after):
        """That new names are names, no two of one kind the same, and that none occurs in the program before."""
        old = texts_in(before)
        sorts = [name for name, _ in after[0]][len(before[0]):]
        values = [name for _, row in after[0][len(before[0]):] for name in row]
        nodes = [row[0] for row in after[1] if row[0] not in [other[0] for other in before[1]]]
        self.assertEqual(len(nodes), len(after[1]) - len(before[1]))
        local = []
        for row in after[1]:
            same_name = [other for other in before[1] if other[0] == row[0]]
            if same_name:
                inner = [x for x, _ in row[3][len(same_name[0][3]):]]
                self.assertEqual(row[3][:len(same_name[0][3])], same_name[0][3])
                self.assertEqual(len(set(inner)), len(inner))
                local += inner
        for names, rule in ((sorts, is_great), (values, is_great), (nodes, is_small), (local, is_small)):
            for name in names:
                self.assertTrue(rule(name), name)
                self.assertNotIn(name, old)
        for names in (sorts, values, nodes):
            self.assertEqual(len(set(names)), len(names))

    def test_names_that_are_taken_already(self):
        value = read_program(GOOD)
        for _ in range(4):
            after = translated(value)
            self.check_names(value, after)
            new = sorted(texts_in(after) - texts_in(value))
            fresh = [name for name in new if is_small(name)]
            great = [name for name in new if is_great(name)]
            text = GOOD
            for old, name in zip(("x", "z", "y", "w", "p", "q", "g", "f"), fresh):
                text = "".join(name if word == old else word for word in words_of(text))
            for old, name in zip("AB", great):
                text = "".join(name if word == old else word for word in words_of(text))
            value = read_program(f"sort {great[2]} = {great[0]} | {great[1]}\n" + text)
            self.assertTrue(are_blocks(value) and is_right(translated(value)))
            self.check_names(value, translated(value))


def texts_in(value):
    if isinstance(value, str):
        return {value}
    return set().union(*[texts_in(part) for part in value]) if isinstance(value, tuple) else set()


def words_of(text):
    word = ""
    for sign in text:
        if sign.isalnum():
            word += sign
        else:
            yield word
            yield sign
            word = ""
    yield word


class MeaningTest(unittest.TestCase):
    """What translations do."""

    def told(self, text, rows):
        value = read_program(text)
        self.assertTrue(is_program(value) and fits(value) and are_blocks(value), text)
        after = translated(value)
        self.assertTrue(is_right(after), print_program(after))
        self.assertTrue(same(run(after, rows), meaning_oracle.run(after, rows)))
        return run(after, rows)

    def outputs(self, text, rows):
        found, fault = self.told(text, rows)
        self.assertIsNone(fault)
        return [row[0] if len(row) == 1 else row for row in found]

    def counting(self, up="", down="", header="node f(x: bool, z: bool) -> (n: mod 9)"):
        return (f"{header}\nstates\nstate Up\n{up}n = 0:9 -> pre n + 1:9\nstate Down\n{down}"
                "n = 8:9 -> pre n - 1:9\nend\nend\nmain f")

    def until(self, up, down):
        text = ("node f(x: bool, z: bool) -> (n: mod 9)\nstates\nstate Up\nn = 0:9 -> pre n + 1:9\n" + up
                + "state Down\nn = 8:9 -> pre n - 1:9\n" + down + "end\nend\nmain f")
        return text

    def test_the_first_state_is_active_first(self):
        self.assertEqual(self.outputs(self.counting(), ((T, T),) * 3), [0, 1, 2])

    def test_unless_acts_at_once(self):
        rows = ((F, F), (T, F), (F, F), (F, T), (F, F))
        text = self.counting("unless x then Down\n", "unless z then Up\n")
        self.assertEqual(self.outputs(text, rows), [0, 8, 7, 0, 1])
        text = self.counting("unless x continue Down\n", "unless z continue Up\n")
        self.assertEqual(self.outputs(text, rows), [0, 8, 7, 1, 2])

    def test_until_acts_at_the_next_instant(self):
        rows = ((F, F), (T, F), (F, F), (F, T), (F, F), (F, F))
        text = self.until("until x then Down\n", "until z then Up\n")
        self.assertEqual(self.outputs(text, rows), [0, 1, 8, 7, 0, 1])
        text = self.until("until x continue Down\n", "until z continue Up\n")
        self.assertEqual(self.outputs(text, rows), [0, 1, 8, 7, 2, 3])

    def test_a_state_that_leads_to_itself(self):
        rows = ((F, F), (F, F), (T, F), (F, F))
        self.assertEqual(self.outputs(self.counting("unless x then Up\n"), rows), [0, 1, 0, 1])
        self.assertEqual(self.outputs(self.counting("unless x continue Up\n"), rows), [0, 1, 2, 3])
        self.assertEqual(self.outputs(self.until("until x then Up\n", ""), rows), [0, 1, 2, 0])
        self.assertEqual(self.outputs(self.until("until x continue Up\n", ""), rows), [0, 1, 2, 3])

    def test_conditions_with_nil(self):
        text = self.counting("unless p then Down\n").replace("(n: mod 9)\n", "(n: mod 9)\nvar p: bool\np = pre x\n")
        self.assertEqual(self.told(text, ((T, T),)), ((), 0))
        text = text.replace("p = pre x", "p = true -> pre pre x")
        self.assertEqual(self.told(text, ((T, T), (T, T))), (((8,), (7,)), None))
        text = self.until("until p then Down\n", "").replace("(n: mod 9)\n", "(n: mod 9)\nvar p: bool\np = false -> pre pre x\n")
        self.assertEqual(self.told(text, ((T, T), (T, T), (T, T))), (((0,),), 1))

    def test_calls_in_states(self):
        text = ("node count(up: bool) -> (k: mod 9)\nk = (0:9 fby k) + (if up then 1:9 else 0:9)\nend\n"
                "node f(x: bool, z: bool) -> (n: mod 9)\nstates\nstate Up\nn = count(not z)\nuntil x continue Down\n"
                "state Down\nn = 8:9\nuntil true {} Up\nend\nend\nmain f")
        rows = ((F, F), (T, F), (F, F), (F, F), (F, T), (T, F), (F, F), (F, F))
        self.assertEqual(self.outputs(text.format("continue"), rows), [1, 2, 8, 3, 3, 4, 8, 5])
        self.assertEqual(self.outputs(text.format("then"), rows), [1, 2, 8, 1, 1, 2, 8, 1])

    def test_several_blocks(self):
        text = ("node f(x: bool) -> (n: mod 9, a: bool)\nstates\nstate A\nunless not a then B\nn = 0:9 -> pre n + 1:9\n"
                "state B\nunless a continue A\nn = 8:9\nend\nstates\nstate On\na = true\nuntil x then Off\nstate Off\n"
                "a = false\nuntil x then On\nend\nend\nmain f")
        rows = ((F,), (T,), (F,), (T,), (F,), (F,))
        self.assertEqual(self.outputs(text, rows), [(0, T), (1, T), (8, F), (8, F), (2, T), (3, T)])

    def test_memories_of_variables_outside(self):
        text = ("node f(x: bool) -> (n: mod 9)\nvar last: mod 9\nlast = 5:9 fby n\nstates\nstate A\nn = last + 1:9\n"
                "until x then B\nstate B\nn = last + last\nuntil x then A\nend\nend\nmain f")
        self.assertEqual(self.outputs(text, ((F,), (T,), (F,), (T,), (F,))), [6, 7, 5, 1, 2])

    def test_variables_of_the_block_in_other_states(self):
        # A memory of a state belongs to the state: what n was in other states does not matter to it.
        text = ("node f(x: bool) -> (n: mod 9)\nstates\nstate A\nn = 1:9 fby n + 1:9\nuntil x continue B\nstate B\n"
                "n = 7:9 fby n + 1:9\nuntil x continue A\nend\nend\nmain f")
        self.assertEqual(self.outputs(text, ((F,), (T,), (F,), (T,), (F,), (T,), (F,))), [1, 2, 7, 8, 3, 4, 0])

    def test_a_block_in_a_node_that_is_called(self):
        text = ("node m(x: bool) -> (n: mod 9)\nstates\nstate A\nn = 0:9 -> pre n + 1:9\nuntil x then B\nstate B\n"
                "n = 8:9 -> pre n - 1:9\nend\nend\nnode f(x: bool, z: bool) -> (n: mod 9)\n{}\nend\nmain f")
        rows = ((F, T), (T, T), (F, F), (F, T), (T, T), (F, F))
        self.assertEqual(self.outputs(text.format("n = m(x) every not z"), rows), [0, 1, 0, 1, 2, 0])
        on = "var k: mod 9\nk = m(x when z)\nn = merge z (false -> 4:9) (true -> k)"
        self.assertEqual(self.outputs(text.format(on), rows), [0, 1, 4, 8, 7, 4])
