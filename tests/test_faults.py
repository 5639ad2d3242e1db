"""[2.3] and [2.4]: the first fault of a program."""

import random
import unittest

from everytick.kinds import fault_of, fits
from everytick.program_texts import read_program
from tests.fitting import Fitting
from tests.samples import SORTS, TRUE, X, Y, block, node, number, one_node, program, state

Z = ("var", "z")
EQUATION = (("y",), X)


def call(name, *args, reset=None):
    return ("call", name, args, reset)


class FaultsTest(unittest.TestCase):
    def fault(self, value, expected):
        self.assertEqual(fault_of(value), expected)
        self.assertIs(fits(value), expected is None)

    def fine(self, *values):
        for value in values:
            self.fault(value, None)

    def body(self, *body, **options):
        return one_node(*body, **options)


class NamesTest(FaultsTest):
    def test_what_fits(self):
        self.fine(self.body(EQUATION))

    def test_node(self):
        f, g = node([EQUATION]), node([EQUATION], name="g")
        self.fault(program(f, f), ("node", "f", 1))
        self.fault(program(f, g, f), ("node", "f", 2))
        self.fault(program(f, g, g, f), ("node", "g", 2))
        self.fault(program(f, f, f), ("node", "f", 1))
        self.fine(program(f, g), program(g, f))

    def test_main(self):
        self.fault(self.body(EQUATION, main="g"), ("main", "", 0))
        self.fine(program(node([EQUATION]), node([EQUATION], name="g"), main="f"))
        self.fine(program(node([EQUATION]), node([EQUATION], name="g"), main="g"))

    def test_double(self):
        self.fault(self.body(EQUATION, inputs=[("x", "bool"), ("x", "bool")]), ("double", "f", 1))
        self.fault(self.body(EQUATION, inner=[("y", "bool")]), ("double", "f", 2))
        self.fault(self.body(EQUATION, inner=[("z", "bool"), ("x", "bool")]), ("double", "f", 3))
        self.fault(self.body(EQUATION, outputs=[("x", "bool")], inner=[("x", "bool")]), ("double", "f", 1))
        self.fault(self.body(EQUATION, inner=[("z", "bool"), ("w", "bool"), ("w", ("mod", 3)), ("z", "bool")]),
                   ("double", "f", 4))

    def test_variables_of_other_nodes_do_not_matter(self):
        self.fine(program(node([EQUATION]), node([EQUATION], name="x"), main="x"))
        self.fine(program(node([EQUATION], name="x"), node([EQUATION])))
        self.fine(program(node([(("y",), TRUE)], [], name="x"), node([(("y",), ("call", "x", (), X))])))


class EquationsTest(FaultsTest):
    def setUp(self):
        self.g = node([(("a",), ("var", "b")), (("c",), ("var", "d"))], [("b", "bool"), ("d", ("mod", 8))],
                      [("a", "bool"), ("c", ("mod", 8))], name="g")
        self.none = node([(("a",), TRUE)], [], [("a", "bool")], name="none")

    def calling(self, *body, **options):
        options.setdefault("inputs", [("x", "bool"), ("n", ("mod", 8))])
        options.setdefault("outputs", [("y", "bool"), ("m", ("mod", 8))])
        return program(self.g, self.none, node(body, name="h", **options))

    def test_calls_that_fit(self):
        good = call("g", X, ("var", "n"))
        self.fine(self.calling((("y", "m"), good)), self.calling((("y", "m"), call("g", X, ("var", "n"), reset=X))))
        self.fine(self.calling((("y",), call("none")), (("m",), ("var", "n"))))
        self.fine(self.calling((("y",), call("none", reset=TRUE)), (("m",), ("var", "n"))))

    def test_call(self):
        args = (X, ("var", "n"))
        for names, right in (
            (("y", "m"), call("nope", *args)), (("y", "m"), call("h", *args)), (("y", "m"), call("later", *args)),
            (("y", "m"), call("g", X)), (("y", "m"), call("g", *args, X)), (("y", "m"), call("g")),
            (("y",), call("g", *args)), (("y", "m", "y"), call("g", *args)), (("y", "m"), call("none")),
            (("y",), call("none", X)),
        ):
            value = self.calling((names, right))
            value = (value[0], value[1] + (node([(("a", "c"), call("g", ("var", "b"), ("var", "d")))], self.g[1],
                                                self.g[2], name="later"),), "h")
            self.fault(value, ("call", "h", 0))

    def test_a_node_does_not_call_itself_or_a_later_one(self):
        self.fault(one_node((("y",), call("f", X))), ("call", "f", 0))
        self.fault(program(node([(("y",), call("g", X))]), node([EQUATION], name="g")), ("call", "f", 0))
        self.fine(program(node([EQUATION], name="g"), node([(("y",), call("g", X))])))

    def test_name(self):
        for equation in ((("y",), Z), (("z",), X), (("y",), ("not", ("pre", ("or", X, Z)))), (("z",), Z),
                         (("y",), ("when", X, "z", True)), (("y",), ("merge", "z", ((False, X), (True, X)))),
                         (("y",), ("merge", "x", ((False, X), (True, Z)))), (("y",), ("when", Z, "x", True))):
            self.fault(self.body(EQUATION, equation), ("name", "f", 1))
        n = ("var", "n")
        for equation in ((("y", "z"), call("g", X, n)), (("y", "m"), call("g", Z, n)),
                         (("y", "m"), call("g", X, n, reset=Z)), (("y", "m"), call("g", X, n, reset=("not", Z)))):
            self.fault(self.calling(equation), ("name", "h", 0))

    def test_kind(self):
        for right in (number(3), ("and", X, number(3)), ("var", "n"), ("add", ("var", "n"), ("var", "n")),
                      ("when", ("pre", X), "x", True), ("merge", "x", ((True, X), (False, X))),
                      ("const", "Red", ("sort", "Color"))):
            value = self.body(EQUATION, (("y",), right), inputs=[("x", "bool"), ("n", ("mod", 8))], sorts=SORTS)
            self.fault(value, ("kind", "f", 1))
        n = ("var", "n")
        for names, right in (
            (("y", "m"), call("g", n, n)), (("y", "m"), call("g", X, X)), (("m", "y"), call("g", X, n)),
            (("y", "y"), call("g", X, n)), (("m", "m"), call("g", X, n)), (("y", "m"), call("g", X, n, reset=n)),
            (("y", "m"), call("g", ("not", n), n)), (("y", "m"), call("g", X, n, reset=("not", n))),
            (("y", "m"), call("g", X, number(3, 9))), (("m",), call("none")),
            (("y",), call("none", reset=number(1))),
        ):
            self.fault(self.calling((names, right)), ("kind", "h", 0))

    def test_sorts_are_told_by_their_names(self):
        sorts = (("E", ("A", "B")), ("F", ("C", "D")))
        value = self.body((("y",), X), inputs=[("x", ("sort", "E"))], outputs=[("y", ("sort", "F"))], sorts=sorts)
        self.fault(value, ("kind", "f", 0))
        value = self.body((("y",), X), inputs=[("x", ("mod", 2))], outputs=[("y", ("mod", 3))])
        self.fault(value, ("kind", "f", 0))

    def test_the_words_of_one_equation(self):
        n = ("var", "n")
        self.fault(self.calling((("z",), call("nope", number(3)))), ("call", "h", 0))
        self.fault(self.calling((("z", "y"), call("g", X))), ("call", "h", 0))
        self.fault(self.calling((("z", "y"), call("g", n, n))), ("name", "h", 0))
        self.fault(self.calling((("y", "m"), call("g", n, Z))), ("name", "h", 0))
        self.fault(self.body((("y",), ("add", Z, X))), ("name", "f", 0))

    def test_earlier_equations_come_first(self):
        bad_kind, bad_name, bad_call = (("y",), number(3)), (("y",), Z), (("y",), call("nope"))
        for one, word in ((bad_kind, "kind"), (bad_name, "name"), (bad_call, "call")):
            for other in (bad_kind, bad_name, bad_call):
                self.fault(self.body(one, other), (word, "f", 0))
                self.fault(self.body(EQUATION, one, other), (word, "f", 1))

    def test_equations_of_states_are_numbered_too(self):
        states = block(state("A", [EQUATION, (("w",), X)]), state("B", [EQUATION, (("w",), Z)]))
        options = {"outputs": [("y", "bool"), ("w", "bool"), ("v", "bool")]}
        self.fault(self.body((("v",), X), states, **options), ("name", "f", 4))
        self.fault(self.body(states, (("v",), number(3)), **options), ("name", "f", 3))
        states = block(state("A", [EQUATION, (("w",), X)]), state("B", [EQUATION, (("w",), X)]))
        self.fault(self.body(states, (("v",), number(3)), **options), ("kind", "f", 4))
        self.fault(self.body(states, states, (("v",), call("f")), **options), ("call", "f", 8))


class TransitionsTest(FaultsTest):
    def with_rows(self, unless_a=(), until_a=(), unless_b=(), until_b=()):
        return self.body(block(state("A", [EQUATION], unless_a, until_a), state("B", [EQUATION], unless_b, until_b)),
                         inputs=[("x", "bool"), ("n", ("mod", 8))])

    def test_what_fits(self):
        rows = [(X, "then", "A"), (("var", "y"), "continue", "B"), (TRUE, "then", "B")]
        self.fine(self.with_rows(), self.with_rows(rows, rows, rows, rows))

    def test_state(self):
        self.fault(self.with_rows([(X, "then", "C")]), ("state", "f", 0))
        self.fault(self.with_rows([], [(X, "continue", "C")]), ("state", "f", 0))
        other = block(state("C", [(("w",), X)]), state("D", [(("w",), X)], [(X, "then", "A")]))
        value = self.body(block(state("A", [EQUATION]), state("B", [EQUATION], [(X, "then", "A")])), other,
                          outputs=[("y", "bool"), ("w", "bool")])
        self.fault(value, ("state", "f", 1))

    def test_name(self):
        self.fault(self.with_rows([(Z, "then", "A")]), ("name", "f", 0))
        self.fault(self.with_rows([(("or", X, ("not", Z)), "then", "A")]), ("name", "f", 0))
        self.fault(self.with_rows([(("when", X, "z", True), "then", "A")]), ("name", "f", 0))

    def test_kind(self):
        self.fault(self.with_rows([(("var", "n"), "then", "A")]), ("kind", "f", 0))
        self.fault(self.with_rows([(("and", X, ("var", "n")), "then", "A")]), ("kind", "f", 0))
        self.fault(self.with_rows([(number(1), "then", "A")]), ("kind", "f", 0))

    def test_the_words_of_one_transition(self):
        self.fault(self.with_rows([(("add", Z, X), "then", "C")]), ("state", "f", 0))
        self.fault(self.with_rows([(("add", Z, X), "then", "A")]), ("name", "f", 0))

    def test_their_numbers(self):
        good = (X, "then", "A")
        bad = (X, "then", "C")
        self.fault(self.with_rows([good, bad]), ("state", "f", 1))
        self.fault(self.with_rows([good, good], [good, bad]), ("state", "f", 3))
        self.fault(self.with_rows([good], [good], [bad], [bad]), ("state", "f", 2))
        self.fault(self.with_rows([], [bad], [(Z, "then", "A")]), ("state", "f", 0))
        self.fault(self.with_rows([(Z, "then", "A")], [bad]), ("name", "f", 0))
        self.fault(self.with_rows([good, good, good, good], [good, good, good, good], [good], [good, good, bad]),
                   ("state", "f", 11))

    def test_numbers_go_on_in_the_next_block(self):
        good = (X, "then", "A")
        one = block(state("A", [EQUATION], [good], [good]), state("B", [EQUATION], [], [good]))
        other = block(state("A", [(("w",), X)]), state("B", [(("w",), X)], [good, (number(3), "then", "A")]))
        self.fault(self.body(one, other, outputs=[("y", "bool"), ("w", "bool")]), ("kind", "f", 4))


class DefinitionsTest(FaultsTest):
    def test_input(self):
        self.fault(self.body(EQUATION, (("x",), Y)), ("input", "f", 1))
        self.fault(self.body((("x",), Y), EQUATION, (("x",), Y)), ("input", "f", 0))
        g = node([(("a",), TRUE), (("b",), TRUE)], [], [("a", "bool"), ("b", "bool")], name="g")
        self.fault(program(g, node([(("y", "x"), call("g"))])), ("input", "f", 0))
        self.fault(self.body(block(state("A", [EQUATION]), state("B", [EQUATION, (("x",), Y)]))), ("input", "f", 2))

    def test_again(self):
        self.fault(self.body(EQUATION, EQUATION), ("again", "f", 1))
        self.fault(self.body(EQUATION, (("z",), X), EQUATION, (("z",), X), inner=[("z", "bool")]), ("again", "f", 2))
        g = node([(("a",), TRUE), (("b",), TRUE)], [], [("a", "bool"), ("b", "bool")], name="g")
        self.fault(program(g, node([(("y", "y"), call("g"))])), ("again", "f", 0))
        self.fault(program(g, node([EQUATION, (("z", "y"), call("g"))], inner=[("z", "bool")])), ("again", "f", 1))

    def test_again_in_states(self):
        one, other = state("A", [EQUATION]), state("B", [EQUATION])
        self.fine(self.body(block(one, other)), self.body(block(one, other, state("C", [EQUATION]))))
        self.fault(self.body(block(state("A", [EQUATION, EQUATION]), other)), ("again", "f", 1))
        self.fault(self.body(block(one, state("B", [EQUATION, EQUATION]))), ("again", "f", 2))
        self.fault(self.body(block(one, other), EQUATION), ("again", "f", 2))
        self.fault(self.body(EQUATION, block(one, other)), ("again", "f", 1))
        self.fault(self.body(block(one, other), block(one, other)), ("again", "f", 2))
        self.fault(self.body(block(one, state("B")), block(state("A"), other)), ("again", "f", 1))
        self.fault(self.body(block(state("A"), other), block(one, state("B"))), ("again", "f", 1))
        g = node([(("a",), TRUE), (("b",), TRUE)], [], [("a", "bool"), ("b", "bool")], name="g")
        value = program(g, node([block(one, state("B", [(("y", "y"), call("g"))]))]))
        self.fault(value, ("again", "f", 1))

    def test_states(self):
        two = {"outputs": [("y", "bool"), ("w", "bool")]}
        one, other = state("A", [EQUATION, (("w",), X)]), state("B", [(("w",), X), EQUATION])
        self.fine(self.body(block(one, other), **two))
        self.fault(self.body(block(one, state("B", [EQUATION])), **two), ("states", "f", 0))
        self.fault(self.body(block(state("A", [EQUATION]), state("B", one[1])), **two), ("states", "f", 0))
        self.fault(self.body(block(state("A", [EQUATION]), state("B", [EQUATION]), state("C"))), ("states", "f", 0))
        self.fault(self.body(block(state("A", [EQUATION]), state("B", [EQUATION])),
                             block(state("A", [(("w",), X)]), state("B")), **two), ("states", "f", 1))
        self.fault(self.body((("v",), X), block(state("A", [EQUATION]), state("B", [EQUATION])), (("u",), X),
                             block(state("A"), state("B", [(("w",), X)])),
                             outputs=[(x, "bool") for x in "ywvu"]), ("states", "f", 1))
        self.fine(self.body(EQUATION, block(state("A"), state("B"))))

    def test_undefined(self):
        self.fault(self.body(EQUATION, outputs=[("y", "bool"), ("z", "bool")]), ("undefined", "f", 2))
        self.fault(self.body(EQUATION, outputs=[("z", "bool"), ("y", "bool")]), ("undefined", "f", 1))
        self.fault(self.body(EQUATION, inner=[("z", "bool")]), ("undefined", "f", 2))
        self.fault(self.body(EQUATION, inputs=[("x", "bool"), ("w", "bool")], inner=[("z", "bool"), ("v", "bool")]),
                   ("undefined", "f", 3))
        self.fault(self.body((("z",), TRUE), inputs=[], inner=[("z", "bool")]), ("undefined", "f", 0))

    def test_their_order(self):
        self.fault(self.body(EQUATION, EQUATION, (("x",), Y), inner=[("z", "bool")]), ("input", "f", 2))
        self.fault(self.body(EQUATION, EQUATION, inner=[("z", "bool")]), ("again", "f", 1))
        states = block(state("A", [(("z",), X)]), state("B"))
        self.fault(self.body(states, EQUATION, EQUATION, inner=[("z", "bool"), ("w", "bool")]), ("again", "f", 2))
        self.fault(self.body(states, EQUATION, inner=[("z", "bool"), ("w", "bool")]), ("states", "f", 0))


class TwoFaultsTest(FaultsTest):
    """Of two faults at once the one that comes first in [2.3] counts."""

    def faulty(self, words, name):
        """A node with a fault of each of these words, and where the fault of each word is told."""
        inputs, outputs, inner = [("x", "bool")], [("y", "bool")], []
        equations, unless, last = [EQUATION], [(X, "then", "A")], []
        if "double" in words:
            inputs.append(("x", "bool"))
        if "call" in words:
            equations.append((("c",), call("nope")))
            inner.append(("c", "bool"))
        if "name" in words:
            equations.append((("y",), ("var", "nope")))
        if "kind" in words:
            equations.append((("y",), number(3)))
        if "state" in words:
            unless.append((X, "then", "Nope"))
        if "input" in words:
            last.append((("x",), X))
        if "again" in words:
            last.append(EQUATION)
        states_b = [] if "states" in words else [(("w",), X)]
        inner.append(("w", "bool"))
        if "undefined" in words:
            inner.append(("u", "bool"))
        body = equations + [block(state("A", [(("w",), X)], unless), state("B", states_b))] + last
        return node(body, inputs, outputs, inner, name)

    def test_two_words_in_one_node(self):
        order = ("double", "call", "name", "kind", "state", "input", "again", "states", "undefined")
        for k, one in enumerate(order):
            single = fault_of(program(self.faulty((one,), "f")))
            self.assertEqual(single[:2], (one, "f"))
            for other in order[k + 1:]:
                value = program(self.faulty((one, other), "f"))
                self.assertEqual(fault_of(value)[:2], (one, "f"), (one, other))

    def test_the_first_node_counts(self):
        words = ("double", "call", "name", "kind", "state", "input", "again", "states", "undefined")
        for one in words:
            for other in words:
                value = program(self.faulty((one,), "f"), self.faulty((other,), "g"))
                self.assertEqual(fault_of(value)[:2], (one, "f"))
                value = program(self.faulty((), "e"), self.faulty((one,), "f"), self.faulty((other,), "g"), main="e")
                self.assertEqual(fault_of(value)[:2], (one, "f"))

    def test_names_of_nodes_come_before_all(self):
        bad = self.faulty(("double",), "f")
        self.fault(program(bad, self.faulty((), "g"), self.faulty((), "g")), ("node", "g", 2))
        self.fault(program(bad, main="h"), ("main", "", 0))
        self.fault(program(bad, bad, main="h"), ("node", "f", 1))

    def test_transitions_come_behind_all_equations(self):
        states = block(state("A", [EQUATION], [(X, "then", "C")]), state("B", [EQUATION]))
        self.fault(self.body(states, (("z",), number(3)), inner=[("z", "bool")]), ("kind", "f", 2))
        self.fault(self.body(states, (("y",), X)), ("state", "f", 0))


class OrderTest(FaultsTest):
    def test_the_order_of_equations_and_locals_does_not_matter(self):
        for seed in range(150):
            value = Fitting(seed, loose=0.3).program(3)
            self.fine(value)
            self.fine(self.shuffled(value, seed))

    def test_nor_does_it_for_programs_with_faults(self):
        for words in (("kind",), ("name",), ("again",), ("undefined",), ("states",), ("state",), ("call",), ("input",),
                      ("double",), ()):
            value = program(TwoFaultsTest().faulty(words, "f"))
            for seed in range(20):
                self.assertIs(fits(self.shuffled(value, seed)), words == ())

    def shuffled(self, value, seed):
        sorts, nodes, main = value
        chooser = random.Random(seed)
        found = []
        for name, inputs, outputs, inner, body in nodes:
            found.append((name, inputs, outputs, tuple(chooser.sample(inner, len(inner))),
                          tuple(chooser.sample(body, len(body)))))
        return (sorts, tuple(found), main)

    def test_texts(self):
        text = ("sort E = A | B\nnode g(a: E) -> (b: bool)\nb = a = A\nend\n"
                "node f(x: E) -> (y: bool)\nvar k: mod 3\nk = 0:3 fby k + 1:3\nstates\nstate On\nunless k = 2:3 then Off\n"
                "y = g(x)\nstate Off\ny = g(B) every k = 0:3\nuntil y or x = A continue On\nend\nend\nmain f")
        self.fine(read_program(text))
        self.fault(read_program(text.replace("k = 2:3", "k = 2:4")), ("kind", "f", 0))
        self.fault(read_program(text.replace("x = A continue", "z = A continue")), ("name", "f", 1))
        self.fault(read_program(text.replace("g(B) every k = 0:3", "g(x = B)")), ("kind", "f", 2))
        self.fault(read_program(text.replace("b = a = A", "a = A")), ("input", "g", 0))
