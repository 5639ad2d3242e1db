"""[2.1] and [2.2]: kinds of expressions and interfaces."""

import unittest

from everytick.kinds import interface_of, kind_of, kinds_in
from tests.fitting import Fitting, values
from tests.samples import FALSE, SORTS, TRUE, X, deep, node, number, program

M8, M9, COLOR, LAMP = ("mod", 8), ("mod", 9), ("sort", "Color"), ("sort", "Red")
KINDS = {"b": "bool", "c": "bool", "n": M8, "m": M8, "k": M9, "two": ("mod", 2), "s": COLOR, "t": COLOR, "l": LAMP}
PROGRAM = (SORTS, (), "f")


def v(name):
    return ("var", name)


class KindOfTest(unittest.TestCase):
    def of(self, kind, *trees):
        for tree in trees:
            self.assertEqual(kind_of(PROGRAM, KINDS, tree), kind, tree)

    def none(self, *trees):
        for tree in trees:
            self.assertIsNone(kind_of(PROGRAM, KINDS, tree), tree)

    def test_constants_and_variables(self):
        self.of("bool", TRUE, FALSE, v("b"))
        self.of(M8, number(3), v("n"))
        self.of(M9, number(3, 9), v("k"))
        self.of(COLOR, ("const", "Red", COLOR), v("s"))
        self.of(LAMP, ("const", "On", LAMP), v("l"))
        self.none(v("q"), X)
        self.assertIsNone(kind_of(PROGRAM, {}, v("b")))

    def test_logic(self):
        self.of("bool", ("not", v("b")))
        self.none(("not", v("n")), ("not", v("s")), ("not", v("q")))
        for word in ("and", "or", "xor"):
            self.of("bool", (word, v("b"), TRUE))
            self.none((word, v("b"), v("n")), (word, v("n"), v("b")), (word, v("n"), v("n")), (word, v("s"), v("s")),
                      (word, v("q"), v("b")), (word, v("b"), v("q")))

    def test_comparisons(self):
        for word in ("eq", "ne"):
            self.of("bool", (word, v("b"), v("c")), (word, v("n"), v("m")), (word, v("s"), v("t")),
                    (word, v("k"), number(1, 9)))
            self.none((word, v("b"), v("n")), (word, v("n"), v("k")), (word, v("s"), v("l")), (word, v("n"), v("q")),
                      (word, v("q"), v("q")))
        for word in ("less", "leq"):
            self.of("bool", (word, v("n"), v("m")), (word, v("k"), number(1, 9)))
            self.none((word, v("b"), v("c")), (word, v("s"), v("t")), (word, v("n"), v("k")), (word, v("q"), v("q")),
                      (word, v("n"), v("b")))

    def test_sums(self):
        for word in ("add", "sub", "mul"):
            self.of(M8, (word, v("n"), v("m")))
            self.of(M9, (word, v("k"), number(1, 9)))
            self.of(("mod", 2), (word, v("two"), v("two")))
            self.none((word, v("b"), v("c")), (word, v("s"), v("t")), (word, v("n"), v("k")), (word, v("q"), v("q")),
                      (word, v("n"), v("b")), (word, v("b"), v("n")))

    def test_if(self):
        for kind, name in (("bool", "b"), (M8, "n"), (COLOR, "s")):
            self.of(kind, ("if", v("c"), v(name), v(name)))
            self.none(("if", v("n"), v(name), v(name)), ("if", v("s"), v(name), v(name)),
                      ("if", v("c"), v(name), v("k")), ("if", v("c"), v("k"), v(name)),
                      ("if", v("q"), v(name), v(name)), ("if", v("c"), v("q"), v("q")))

    def test_memories(self):
        for kind, name in (("bool", "b"), (M8, "n"), (COLOR, "s")):
            self.of(kind, ("pre", v(name)), ("arrow", v(name), v(name)), ("fby", v(name), v(name)))
            for word in ("arrow", "fby"):
                self.none((word, v(name), v("k")), (word, v("k"), v(name)), (word, v("q"), v(name)))
        self.none(("pre", v("q")), ("fby", v("q"), v("q")), ("arrow", v("q"), v("q")))

    def test_when(self):
        for kind, name in (("bool", "b"), (M8, "n"), (COLOR, "s")):
            for x in ("b", "n", "two", "s", "l"):
                for value in values(KINDS[x]):
                    self.of(kind, ("when", v(name), x, value))
        self.none(("when", v("q"), "b", True), ("when", v("b"), "q", True), ("when", ("not", v("n")), "b", True))

    def test_v_of_when_is_a_value(self):
        for x, labels in (("b", (0, 1, "True", "Red")), ("two", (True, False, 2)), ("n", (8, 31, True, "Red")),
                          ("s", ("On", "Color", 0, False, "Undecl")), ("l", ("Green", True))):
            for label in labels:
                self.none(("when", v("n"), x, label))

    def test_no_memory_in_when(self):
        for tree in (("pre", v("b")), ("arrow", v("b"), v("c")), ("fby", v("b"), v("c"))):
            inside = [tree, ("not", tree), ("if", TRUE, v("b"), tree), ("not", ("and", v("b"), ("not", tree))),
                      ("merge", "b", ((False, v("c")), (True, tree))), ("eq", tree, tree)]
            for whole in inside:
                self.of("bool", whole)
                self.none(("when", whole, "b", True), ("not", ("when", whole, "b", True)),
                          ("when", ("when", whole, "b", True), "c", True))
            self.of("bool", (tree[0],) + tuple(("when", part, "b", True) for part in tree[1:]))
        self.of("bool", ("when", ("when", v("b"), "b", True), "c", False))

    def test_merge(self):
        for kind, name in (("bool", "b"), (M8, "n"), (COLOR, "s")):
            for x in ("b", "two", "s", "l", "n", "k"):
                labels = values(KINDS[x])
                self.of(kind, ("merge", x, tuple((label, v(name)) for label in labels)))

    def merges(self, x, *labels):
        return ("merge", x, tuple((label, v("n")) for label in labels))

    def test_branches_are_the_values_in_order(self):
        self.of(M8, self.merges("b", False, True), self.merges("two", 0, 1), self.merges("s", "Red", "Green", "Blue"))
        self.none(self.merges("b", True, False), self.merges("b", 0, 1), self.merges("b", False, 1),
                  self.merges("b", False, True, 0), self.merges("two", False, True), self.merges("two", 1, 0),
                  self.merges("two", 0, True), self.merges("two", 0, 1, 2), self.merges("s", "Red", "Green"),
                  self.merges("s", "Red", "Blue", "Green"), self.merges("s", "Red", "Green", "Blue", "On"),
                  self.merges("s", "On", "Off"), self.merges("l", "On", "Off", "Red"), self.merges("l", "Off", "On"),
                  self.merges("n", 0, 1, 2, 3, 4, 5, 6), self.merges("q", False, True))

    def test_branches_are_of_one_kind(self):
        self.none(("merge", "b", ((False, v("n")), (True, v("k")))), ("merge", "b", ((False, v("q")), (True, v("q")))),
                  ("merge", "b", ((False, v("n")), (True, v("q")))), ("merge", "l", (("On", v("b")), ("Off", v("n")))),
                  ("merge", "s", (("Red", v("n")), ("Green", v("n")), ("Blue", v("k")))))

    def test_memories_in_merge(self):
        self.of("bool", ("merge", "b", ((False, ("pre", v("b"))), (True, ("fby", v("b"), v("c"))))))

    def test_no_kind_at_any_depth(self):
        wrong = ("and", v("b"), v("n"))
        for tree in (("not", wrong), ("pre", wrong), ("if", wrong, v("n"), v("n")), ("if", v("b"), wrong, v("b")),
                     ("eq", wrong, v("b")), ("when", wrong, "b", True), ("fby", v("b"), wrong), ("eq", wrong, wrong),
                     ("merge", "b", ((False, v("b")), (True, ("not", wrong))))):
            self.none(tree)

    def test_beyond_the_bounds(self):
        self.of("bool", deep(80, v("b")))
        self.none(deep(80, v("n")))
        self.of(("mod", 40), number(39, 40))

    def test_the_dict_stays(self):
        kinds = dict(KINDS)
        kind_of(PROGRAM, kinds, ("and", v("q"), v("b")))
        self.assertEqual(kinds, KINDS)

    def test_random_trees(self):
        for seed in range(200):
            maker = Fitting(seed, loose=0.5)
            value = maker.program()
            kinds = kinds_in(value[1][0])
            for names, right in value[1][0][4]:
                self.assertEqual(kind_of(value, kinds, right), kinds[names[0]])


class KindsInTest(unittest.TestCase):
    def test_kinds_in(self):
        value = node([], [("x", "bool"), ("n", M8)], [("y", COLOR)], [("z", M9)])
        self.assertEqual(kinds_in(value), {"x": "bool", "n": M8, "y": COLOR, "z": M9})
        self.assertEqual(list(kinds_in(value)), ["x", "n", "y", "z"])
        self.assertEqual(kinds_in(node([], [], [("y", "bool")])), {"y": "bool"})

    def test_the_last_one_of_a_name(self):
        self.assertEqual(kinds_in(node([], [("x", "bool"), ("x", M8)], [("y", M9)], [("y", M8)])), {"x": M8, "y": M8})
        self.assertEqual(kinds_in(node([], [("x", "bool")], [("x", M9)])), {"x": M9})

    def test_the_dict_is_new(self):
        value = node([])
        kinds_in(value)["z"] = "bool"
        self.assertEqual(kinds_in(value), {"x": "bool", "y": "bool"})

    def test_interface(self):
        value = program(
            node([], [("x", "bool"), ("n", M8)], [("y", COLOR), ("z", "bool")], [("w", M9)]),
            node([], [], [("y", M9)], name="g"), sorts=SORTS)
        self.assertEqual(interface_of(value, "f"), (("bool", M8), (COLOR, "bool")))
        self.assertEqual(interface_of(value, "g"), ((), (M9,)))
