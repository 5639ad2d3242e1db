"""[1.6]: the form of expressions, their parts and variables."""

import unittest

from everytick.programs import is_expression, parts_of, variables_in
from tests.samples import (
    FALSE, Maker, ODD_VALUES, SORTS, TRUE, X, Y, deep, every_tree, nested_value, number, paths, replaced, value_at,
)

WORDS = {
    "not": 1, "and": 2, "or": 2, "xor": 2, "eq": 2, "ne": 2, "less": 2, "leq": 2, "add": 2, "sub": 2, "mul": 2,
    "if": 3, "pre": 1, "arrow": 2, "fby": 2,
}
TREE = (
    "if", ("when", ("pre", X), "c", 3), ("merge", "c", ((True, X), (0, number(3)))),
    ("eq", ("const", "Green", ("sort", "Color")), ("fby", Y, FALSE)),
)


def merge(*labels):
    return ("merge", "c", tuple((label, X) for label in labels))


class FormTest(unittest.TestCase):
    def yes(self, value, sorts=SORTS):
        self.assertIs(is_expression(sorts, value), True, repr(value)[:300])

    def no(self, value, sorts=SORTS):
        self.assertIs(is_expression(sorts, value), False, repr(value)[:300])

    def test_every_tree(self):
        for tree in every_tree():
            self.yes(tree)
        self.yes(TREE)

    def test_random_trees(self):
        maker = Maker(1)
        for _ in range(300):
            self.yes(maker.tree(6))

    def test_numbers_of_parts(self):
        for word, count in WORDS.items():
            for many in range(5):
                tree = (word,) + (X,) * many
                self.assertIs(is_expression((), tree), many == count, tree)

    def test_each_part_is_an_expression(self):
        for word, count in WORDS.items():
            for k in range(count):
                for wrong in (None, "x", (), ("x",), ["var", "x"], 1, ("var", "X"), ("call", "f", (), None)):
                    tree = (word,) + (X,) * k + (wrong,) + (X,) * (count - k - 1)
                    self.no(tree)

    def test_words(self):
        for word in ("nand", "", "Not", "call", "states", "cell", "select", "set", "x", None, 1, ("not",), ["not"], {}):
            self.no((word, X))
            self.no((word, X, X))
            self.no((word, "f", (), None))

    def test_constants(self):
        self.yes(TRUE)
        self.yes(number(0))
        self.yes(number(7))
        self.yes(number(31, 32))
        self.yes(("const", "Off", ("sort", "Red")))
        wrong = (
            ("const", 1, "bool"), ("const", 0, "bool"), ("const", "true", "bool"), ("const", None, "bool"),
            ("const", True, ("mod", 8)), ("const", False, ("mod", 2)), number(8), number(-1), number(0, 1),
            number(0, 33), ("const", "Red", ("sort", "Red")), ("const", "On", ("sort", "Color")),
            ("const", "On", ("sort", "On")), ("const", 0, ("sort", "Color")), ("const", True), ("const",),
            ("const", True, "bool", "bool"), ("const", True, None), ("const", [], "bool"), ("const", True, ["bool"]),
            ("const", "x", "x"), ("const", ("Red",), ("sort", "Color")),
        )
        for value in wrong:
            self.no(value)
        self.no(("const", "Off", ("sort", "Red")), ())

    def test_variables(self):
        self.yes(("var", "longname"))
        for value in (("var",), ("var", "x", "x"), ("var", "X"), ("var", "when"), ("var", "longnames"), ("var", None),
                      ("var", 1), ("var", ("x",)), ("var", ["x"]), ["var", "x"], ("var", "")):
            self.no(value)

    def test_when(self):
        for label in (True, False, 0, 1, 31, "A", "Undecl"):
            self.yes(("when", X, "c", label))
        for label in (None, -1, 32, "a", "", "true", (), (1,), [1], {}, 1.0, "Longnames"):
            self.no(("when", X, "c", label))
        for name in ("C", None, "if", 1, ("c",), ["c"], ("var", "c")):
            self.no(("when", X, name, True))
        for value in (("when", X, "c"), ("when", X, "c", True, True), ("when", "x", "c", True), ("when", "c", X, True)):
            self.no(value)

    def test_merge(self):
        self.yes(merge(True, False))
        self.yes(merge(0, 1, 31, "A", "Undecl", True, False))
        for label in (None, -1, 32, "a", "", (), (1,), [1], {}, 1.0):
            self.no(merge(True, label))
        for name in ("C", None, "if", 1, ("c",), ["c"], X):
            self.no(("merge", name, ((True, X), (False, X))))
        for branches in (None, X, "x", [], [(True, X), (False, X)], {True: X, False: X}, ((True, X), [False, X]),
                         ((True, X), (False,)), ((True, X), (False, X, X)), ((True, X), ()), ((True, X), None),
                         ((True, X), X), ((X, True), (X, False)), ((True, X), (False, "x")), ((True, X), "ab")):
            self.no(("merge", "c", branches))
        self.no(("merge", "c"))
        self.no(("merge", "c", ((True, X), (False, X)), None))

    def test_numbers_of_branches(self):
        for many in range(0, 36):
            labels = (list(range(32)) + ["A", "B", "C", "D"])[:many]
            self.assertIs(is_expression((), merge(*labels)), 2 <= many <= 32, many)

    def test_labels_are_different(self):
        self.yes(merge(True, 1))
        self.yes(merge(False, 0))
        self.yes(merge(0, 1, True, False))
        for labels in ((True, True), (False, True, False), (0, 0), (1, True, 1), ("A", "A"), (3, "A", "B", 3)):
            self.no(merge(*labels))

    def test_depths(self):
        for depth in (1, 2, 19, 20):
            self.yes(deep(depth))
        for depth in (21, 22, 50, 99):
            self.no(deep(depth))

    def test_depth_counts_each_kind_of_part(self):
        for k, tree in ((1, ("and", X, X)), (2, ("and", X, X)), (3, ("if", X, X, X)), (1, ("pre", X)),
                        (1, ("when", X, "c", True))):
            self.yes(replaced(tree, (k,), deep(19)))
            self.no(replaced(tree, (k,), deep(20)))
        for k in (0, 1):
            self.yes(replaced(merge(True, False), (2, k, 1), deep(19)))
            self.no(replaced(merge(True, False), (2, k, 1), deep(20)))
        self.yes(deep(20, TRUE))
        self.no(deep(21, TRUE))

    def test_other_values(self):
        for value in ODD_VALUES:
            self.no(value)
        self.no(nested_value(100))
        self.no(("not", nested_value(99)))
        self.no(("var", nested_value(99)))
        self.no(("when", X, "c", nested_value(97)))

    def test_wrong_values_in_each_place(self):
        for path in paths(TREE):
            old = value_at(TREE, path)
            for new in (None, [], {}, 1.0, (), [old], (old,), list(old) if isinstance(old, tuple) else b"x"):
                self.no(replaced(TREE, path, new))
            if isinstance(old, tuple):
                for new in (old[:-1], old + (None,), old + (X,), dict(enumerate(old))):
                    self.no(replaced(TREE, path, new))


class PartsTest(unittest.TestCase):
    def test_parts(self):
        self.assertEqual(parts_of(TRUE), ())
        self.assertEqual(parts_of(X), ())
        self.assertEqual(parts_of(number(3)), ())
        self.assertEqual(parts_of(("const", "Red", ("sort", "Color"))), ())
        for word, count in WORDS.items():
            parts = (X, Y, TRUE)[:count]
            self.assertEqual(parts_of((word,) + parts), parts)
        self.assertEqual(parts_of(("when", Y, "x", True)), (Y,))
        self.assertEqual(parts_of(("merge", "c", ((False, Y), (True, X), ("A", Y)))), (Y, X, Y))

    def test_variables(self):
        self.assertEqual(variables_in(TRUE), [])
        self.assertEqual(variables_in(("const", "Red", ("sort", "Color"))), [])
        self.assertEqual(variables_in(X), ["x"])
        self.assertEqual(variables_in(("and", ("or", Y, X), ("not", Y))), ["x", "y"])
        self.assertEqual(variables_in(("when", Y, "c", "Red")), ["c", "y"])
        self.assertEqual(variables_in(("when", TRUE, "y", 1)), ["y"])
        self.assertEqual(variables_in(("merge", "m", ((False, Y), (True, ("pre", ("var", "a")))))), ["a", "m", "y"])
        self.assertEqual(variables_in(("if", ("var", "b2"), ("var", "b10"), ("var", "b1"))), ["b1", "b10", "b2"])
        self.assertEqual(variables_in(("fby", ("var", "z"), ("var", "a"))), ["a", "z"])

    def test_the_list_is_new(self):
        tree = ("and", Y, X)
        variables_in(tree).append("q")
        self.assertEqual(variables_in(tree), ["x", "y"])
