"""[1.2], [1.4], [1.5], [1.7], [1.8]: sorts, nodes, equations, blocks and programs."""

import unittest

from everytick.programs import is_program, node_named
from tests.samples import (
    Maker, ODD_VALUES, SORTS, TRUE, X, block, deep, nested_value, node, one_node, paths, program, replaced, state,
    value_at,
)

EQUATION = (("y",), X)
CALL = (("y",), ("call", "g", (X, TRUE), X))
BLOCK = block(
    state("A", [EQUATION, CALL], [(X, "then", "B")], [(TRUE, "continue", "A"), (X, "then", "Q")]), state("B"))
WHOLE = program(
    node([EQUATION, CALL, BLOCK], [("x", "bool"), ("c", ("sort", "Color"))], [("y", "bool")], [("m", ("mod", 8))]),
    node([(("a", "b"), ("call", "f", (), None))], [], [("a", "bool"), ("b", "bool")], name="g"),
    sorts=SORTS, main="f")


def variables(count, letter="v"):
    return [(f"{letter}{k}", "bool") for k in range(count)]


class FormTest(unittest.TestCase):
    def yes(self, value):
        self.assertIs(is_program(value), True, repr(value)[:300])

    def no(self, value):
        self.assertIs(is_program(value), False, repr(value)[:300])


class ProgramsTest(FormTest):
    def test_programs(self):
        self.yes(WHOLE)
        self.yes(one_node(EQUATION))
        maker = Maker(2)
        for _ in range(100):
            self.yes(maker.program())

    def test_other_values(self):
        for value in ODD_VALUES:
            self.no(value)
            self.no((value, value, value))
        self.no(nested_value(100))

    def test_wrong_values_in_each_place(self):
        for path in paths(WHOLE):
            old = value_at(WHOLE, path)
            wrong = [[], {}, 1.0, (nested_value(60),), 77, list(old) if isinstance(old, tuple) else [old]]
            if path[:4] != (1, 0, 4, 1) and path[-1:] != (3,):
                wrong += [None]
            if isinstance(old, tuple):
                wrong += [old + (None,), dict(enumerate(old))]
            for new in wrong:
                self.no(replaced(WHOLE, path, new))

    def test_tuples_of_other_lengths(self):
        for path in ((), (0, 0), (1, 0), (1, 0, 1, 0), (1, 0, 4, 0), (1, 0, 4, 1, 1), (1, 0, 4, 2),
                     (1, 0, 4, 2, 1, 0), (1, 0, 4, 2, 1, 0, 2, 0)):
            old = value_at(WHOLE, path)
            for new in (old[:-1], old[1:], old + old[-1:], ()):
                self.no(replaced(WHOLE, path, new))

    def test_true_is_not_one(self):
        self.no(replaced(WHOLE, (1, 0, 3, 0, 1, 1), True))
        self.no(one_node((("y",), ("const", 1, "bool"))))
        self.no(one_node((("y",), ("const", False, ("mod", 8)))))

    def test_declared_names_do_not_matter(self):
        self.yes(one_node((("q",), ("call", "nope", (("var", "w"),), None)), main="other"))
        self.yes(program(node([EQUATION]), node([EQUATION]), main="h"))
        self.yes(one_node(EQUATION, inputs=[("x", "bool"), ("x", ("mod", 3))], outputs=[("x", "bool")]))
        self.yes(one_node(block(state("A", [EQUATION], [(X, "then", "Z")]), state("B", [(("w",), X)]))))


class SortsTest(FormTest):
    def with_sorts(self, *sorts):
        return program(node([EQUATION]), sorts=sorts)

    def test_numbers_of_sorts(self):
        for many in range(12):
            sorts = [(f"E{k}", (f"A{k}", f"B{k}")) for k in range(many)]
            self.assertIs(is_program(self.with_sorts(*sorts)), many <= 8, many)

    def test_numbers_of_constructors(self):
        for many in range(12):
            sort = ("E", tuple(f"A{k}" for k in range(many)))
            self.assertIs(is_program(self.with_sorts(sort)), 2 <= many <= 8, many)

    def test_names_are_different(self):
        self.no(self.with_sorts(("E", ("A", "B")), ("E", ("C", "D"))))
        self.no(self.with_sorts(("E", ("A", "A"))))
        self.no(self.with_sorts(("E", ("A", "B")), ("F", ("C", "A"))))
        self.no(self.with_sorts(("E", ("A", "B")), ("G", ("H", "I")), ("F", ("C", "B"))))

    def test_a_sort_and_a_constructor_may_have_one_name(self):
        self.yes(self.with_sorts(("E", ("E", "F")), ("F", ("G", "H"))))

    def test_names_are_great(self):
        for name in ("e", "", "Longnames", None, 1, ("E",), ["E"]):
            self.no(self.with_sorts((name, ("A", "B"))))
            self.no(self.with_sorts(("E", ("A", name))))

    def test_kinds_use_the_sorts(self):
        kinds = [("x", ("sort", "E"))]
        self.yes(program(node([EQUATION], kinds), sorts=[("E", ("A", "B"))]))
        self.no(program(node([EQUATION], kinds)))
        self.no(program(node([EQUATION], [("x", ("sort", "A"))]), sorts=[("E", ("A", "B"))]))
        self.no(one_node((("y",), ("const", "A", ("sort", "E")))))
        self.yes(one_node((("y",), ("const", "A", ("sort", "E"))), sorts=[("E", ("A", "B"))]))


class NodesTest(FormTest):
    def test_numbers_of_nodes(self):
        for many in range(15):
            value = ((), tuple(node([EQUATION], name=f"n{k}") for k in range(many)), "f")
            self.assertIs(is_program(value), 1 <= many <= 12, many)

    def test_names(self):
        for name in ("F", "", "main", "longnames", None, 1, ("f",)):
            self.no(program(node([EQUATION], name=name), main="f"))
            self.no(((), (node([EQUATION]),), name))
            self.no(one_node(EQUATION, inputs=[(name, "bool")]))
            self.no(one_node(EQUATION, outputs=[(name, "bool")]))
            self.no(one_node(EQUATION, inner=[(name, "bool")]))
            self.no(one_node(((name,), X)))
            self.no(one_node((("y",), ("call", name, (), None))))

    def test_numbers_of_variables(self):
        for ins, outs, inner in ((0, 1, 0), (23, 1, 0), (0, 24, 0), (0, 1, 23), (8, 8, 8), (0, 23, 1)):
            self.yes(one_node(EQUATION, inputs=variables(ins), outputs=variables(outs), inner=variables(inner)))
            for more in ((1, 0, 0), (0, 1, 0), (0, 0, 1)):
                value = one_node(EQUATION, inputs=variables(ins + more[0]), outputs=variables(outs + more[1]),
                                 inner=variables(inner + more[2]))
                self.assertIs(is_program(value), ins + outs + inner < 24)

    def test_there_is_an_output(self):
        self.no(one_node(EQUATION, outputs=[]))
        self.no(one_node(EQUATION, inputs=variables(3), outputs=[], inner=variables(3)))

    def test_numbers_of_equations(self):
        for many in (0, 1, 2, 39, 40, 41, 42):
            self.assertIs(is_program(one_node(*[EQUATION] * many)), 1 <= many <= 40, many)
            self.assertIs(is_program(one_node(*[CALL] * many)), 1 <= many <= 40, many)
            self.assertIs(is_program(one_node(*[BLOCK] * many)), 1 <= many <= 40, many)
        self.no(one_node(*[EQUATION] * 40 + [BLOCK]))


class EquationsTest(FormTest):
    def test_numbers_of_names(self):
        for many in range(11):
            names = tuple(f"v{k}" for k in range(many))
            self.assertIs(is_program(one_node((names, CALL[1]))), 1 <= many <= 8, many)
            self.assertIs(is_program(one_node((names, X))), many == 1, many)

    def test_numbers_of_arguments(self):
        for many in range(15):
            right = ("call", "g", (X,) * many, None)
            self.assertIs(is_program(one_node((("y",), right))), many <= 12, many)

    def test_calls(self):
        for right in (("call", "g", (), None), ("call", "g", (deep(20),), deep(20)), ("call", "g", (X,), X)):
            self.yes(one_node((("y",), right)))
        wrong = (
            ("call", "g", ()), ("call", "g", (), None, None), ("call", "g", [], None), ("call", "g", X, None),
            ("call", "g", (deep(21),), None), ("call", "g", (), deep(21)), ("call", "g", (), False),
            ("call", "g", (), ()), ("call", "g", ((),), None), ("call", "g", (("call", "g", (), None),), None),
            ("call", "g", (), ("call", "g", (), None)), ("call", "G", (), None), ["call", "g", (), None],
            ("not", ("call", "g", (), None)), ("call", "g", None, None), ("call", "g", (None,), None), ("call",),
        )
        for right in wrong:
            self.no(one_node((("y",), right)))

    def test_depths(self):
        self.yes(one_node((("y",), deep(20))))
        self.no(one_node((("y",), deep(21))))

    def test_left_sides(self):
        for names in ("y", ["y"], ("y", None), ("y", "Y"), (("y",),), None, {"y": 1}, ()):
            self.no(one_node((names, CALL[1])))
        self.yes(one_node((("y", "y"), CALL[1])))


class BlocksTest(FormTest):
    def test_numbers_of_states(self):
        for many in range(9):
            value = one_node(block(*[state(f"S{k}", [EQUATION]) for k in range(many)]))
            self.assertIs(is_program(value), 2 <= many <= 6, many)

    def test_names_are_different_and_great(self):
        self.no(one_node(block(state("A"), state("A"))))
        self.no(one_node(block(state("A"), state("B"), state("A"))))
        self.yes(one_node(block(state("A"), state("B")), block(state("A"), state("B"))))
        for name in ("a", "", None, 1, "Longnames", ("A",), ["A"], True):
            self.no(one_node(block(state("A"), state(name))))
            self.no(one_node(block(state("A"), state("B", [], [(X, "then", name)]))))
            self.no(one_node(block(state("A"), state("B", [], [], [(X, "then", name)]))))

    def test_numbers_of_equations(self):
        for many in (0, 1, 23, 24, 25, 26):
            value = one_node(block(state("A", [EQUATION] * many), state("B", [CALL])))
            self.assertIs(is_program(value), many <= 24, many)

    def test_equations_of_a_state_are_no_blocks(self):
        self.no(one_node(block(state("A", [BLOCK]), state("B"))))
        for wrong in (None, X, [], (("y",), None), ("y", X), (("y", "z"), X), (("y",), deep(21))):
            self.no(one_node(block(state("A", [wrong]), state("B"))))
            self.no(one_node(block(state("A"), state("B", [EQUATION, wrong]))))

    def test_numbers_of_transitions(self):
        for many in range(7):
            rows = [(X, "then", "A")] * many
            self.assertIs(is_program(one_node(block(state("A", [], rows), state("B")))), many <= 4, many)
            self.assertIs(is_program(one_node(block(state("A", [], [], rows), state("B")))), many <= 4, many)
        self.yes(one_node(block(state("A", [], [(X, "then", "A")] * 4, [(X, "then", "A")] * 4), state("B"))))

    def test_transitions(self):
        right = ((X, "then", "A"), (X, "continue", "Q"), (deep(20), "then", "B"))
        wrong = (
            (X, "then"), (X, "then", "A", "A"), (X, "Then", "A"), (X, None, "A"), (X, True, "A"), (X, "", "A"),
            (X, ["then"], "A"), (None, "then", "A"), ("x", "then", "A"), [X, "then", "A"], ("A", "then", X), (), None,
            (deep(21), "then", "A"), (CALL[1], "then", "A"), ("then", X, "A"), (X, "else", "A"), (X, {}, "A"),
        )
        for k in (2, 3):
            for rows, good in [(row, True) for row in right] + [(row, False) for row in wrong]:
                value = one_node(replaced(BLOCK, (1, 1, k), (rows,)))
                self.assertIs(is_program(value), good, rows)
            for rows in (None, [], [(X, "then", "A")], (X, "then", "A"), "then", {}):
                self.no(one_node(replaced(BLOCK, (1, 1, k), rows)))

    def test_blocks(self):
        for wrong in (("states",), ("states", BLOCK[1], ()), ("states", list(BLOCK[1])), ["states", BLOCK[1]],
                      ("state", BLOCK[1]), (BLOCK[1],), ("states", None), ("states", "AB"), ("states", ())):
            self.no(one_node(wrong))


class NodeNamedTest(unittest.TestCase):
    def test_the_first_one(self):
        self.assertEqual(node_named(WHOLE, "f"), WHOLE[1][0])
        self.assertEqual(node_named(WHOLE, "g"), WHOLE[1][1])
        self.assertIsNone(node_named(WHOLE, "h"))
        one, other = node([EQUATION]), node([CALL])
        self.assertEqual(node_named(program(one, other), "f"), one)
