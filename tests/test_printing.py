"""[1.9] and [1.10]: the texts of kinds, expressions and programs, and that reading gives them back."""

import unittest

from everytick.printing import print_expression, print_kind, print_program
from everytick.reading import read_expression
from tests.samples import (
    FALSE, Maker, SORTS, TRUE, X, Y, block, every_tree, node, number, program, replaced, same, state,
)

A, B, C = ("var", "a"), ("var", "b"), ("var", "c")

# The table of [1.10]: a tree, its text around the texts of its parts, its strength, the least strengths of its parts.
TABLE = [
    (("if", A, B, C), "if {} then {} else {}", 0, (0, 0, 0)),
    (("arrow", A, B), "{} -> {}", 1, (2, 1)),
    (("fby", A, B), "{} fby {}", 2, (3, 2)),
    (("or", A, B), "{} or {}", 3, (3, 4)),
    (("xor", A, B), "{} xor {}", 3, (3, 4)),
    (("and", A, B), "{} and {}", 4, (4, 5)),
    (("not", A), "not {}", 5, (5,)),
    (("eq", A, B), "{} = {}", 6, (7, 7)),
    (("ne", A, B), "{} <> {}", 6, (7, 7)),
    (("less", A, B), "{} < {}", 6, (7, 7)),
    (("leq", A, B), "{} <= {}", 6, (7, 7)),
    (("add", A, B), "{} + {}", 7, (7, 8)),
    (("sub", A, B), "{} - {}", 7, (7, 8)),
    (("mul", A, B), "{} * {}", 8, (8, 9)),
    (("when", A, "x", True), "{} when x", 9, (9,)),
    (("when", A, "x", False), "{} when not x", 9, (9,)),
    (("when", A, "x", 0), "{} when x is 0", 9, (9,)),
    (("when", A, "x", 1), "{} when x is 1", 9, (9,)),
    (("when", A, "x", 31), "{} when x is 31", 9, (9,)),
    (("when", A, "x", "Red"), "{} when x is Red", 9, (9,)),
    (("pre", A), "pre {}", 10, (10,)),
    (A, "a", 11, ()),
    (TRUE, "true", 11, ()),
    (FALSE, "false", 11, ()),
    (number(0), "0:8", 11, ()),
    (number(1, 2), "1:2", 11, ()),
    (number(31, 32), "31:32", 11, ()),
    (("const", "Red", ("sort", "Color")), "Red", 11, ()),
    (("merge", "x", ((True, A), (False, B))), "merge x (true -> {}) (false -> {})", 11, (0, 0)),
    (("merge", "x", ((False, A), (0, B))), "merge x (false -> {}) (0 -> {})", 11, (0, 0)),
    (("merge", "x", (("Red", A), (31, B), (1, C))), "merge x (Red -> {}) (31 -> {}) (1 -> {})", 11, (0, 0, 0)),
]


def part_paths(tree):
    if tree[0] == "merge":
        return [(2, k, 1) for k in range(len(tree[2]))]
    if tree[0] in ("var", "const"):
        return []
    if tree[0] == "when":
        return [(1,)]
    return [(k,) for k in range(1, len(tree))]


class TableTest(unittest.TestCase):
    def check(self, tree, text):
        self.assertEqual(print_expression(tree), text)
        self.assertTrue(same(read_expression(SORTS, text), tree), text)

    def test_each_row(self):
        for tree, form, _, least in TABLE:
            self.assertEqual(len(part_paths(tree)), len(least))
            self.check(tree, form.format(*"abc"[:len(least)]))

    def test_each_tree_as_each_part_of_each_other_one(self):
        for tree, form, _, least in TABLE:
            for k, path in enumerate(part_paths(tree)):
                for part, part_form, strength, part_least in TABLE:
                    text = part_form.format(*"abc"[:len(part_least)])
                    texts = list("abc"[:len(least)])
                    texts[k] = f"({text})" if strength < least[k] else text
                    self.check(replaced(tree, path, part), form.format(*texts))

    def test_two_parts_at_once(self):
        for tree, form, _, least in TABLE:
            if len(least) == 2:
                for one, one_form, one_strength, one_least in TABLE:
                    for other, other_form, other_strength, other_least in TABLE:
                        texts = [one_form.format(*"abc"[:len(one_least)]), other_form.format(*"abc"[:len(other_least)])]
                        for k, strength in enumerate((one_strength, other_strength)):
                            if strength < least[k]:
                                texts[k] = f"({texts[k]})"
                        paths = part_paths(tree)
                        self.check(replaced(replaced(tree, paths[0], one), paths[1], other), form.format(*texts))

    def test_deeper_trees(self):
        maker = Maker(3)
        for _ in range(1500):
            tree = maker.tree(7)
            text = print_expression(tree)
            self.assertTrue(same(read_expression(SORTS, text), tree), text)

    def test_all_trees(self):
        for tree in every_tree():
            self.assertTrue(same(read_expression(SORTS, print_expression(tree)), tree))

    def test_the_greatest_depth(self):
        for word, parts in (("if", 3), ("arrow", 2), ("add", 2), ("eq", 2), ("not", 1), ("pre", 1), ("fby", 2)):
            for k in range(1, parts + 1):
                tree = X
                for _ in range(19):
                    tree = (word,) + (Y,) * (k - 1) + (tree,) + (Y,) * (parts - k)
                self.assertTrue(same(read_expression((), print_expression(tree)), tree))
        for pair in ("if", "pre"), ("if", "merge"), ("pre", "merge"):
            tree = X
            for k in range(19):
                word = pair[k % 2]
                tree = {"if": ("if", Y, Y, tree), "pre": ("pre", tree),
                        "merge": ("merge", "m", ((True, tree), (1, Y)))}[word]
            self.assertTrue(same(read_expression((), print_expression(tree)), tree))
        tree = X
        for _ in range(19):
            tree = ("merge", "m", ((True, Y), (1, tree)))
        self.assertTrue(same(read_expression((), print_expression(tree)), tree))

    def test_the_document_s_example(self):
        tree = ("when", ("add", number(0), ("var", "n")), "c", True)
        self.assertEqual(print_expression(tree), "(0:8 + n) when c")

    def test_beyond_the_bounds(self):
        tree = X
        for _ in range(60):
            tree = ("not", tree)
        self.assertEqual(print_expression(tree), "not " * 60 + "x")


class KindTextsTest(unittest.TestCase):
    def test_kinds(self):
        self.assertEqual(print_kind("bool"), "bool")
        self.assertEqual(print_kind(("mod", 2)), "mod 2")
        self.assertEqual(print_kind(("mod", 32)), "mod 32")
        self.assertEqual(print_kind(("sort", "Color")), "Color")


class ProgramTextsTest(unittest.TestCase):
    def test_a_whole_program(self):
        value = program(
            node([(("u", "v"), ("call", "g", (X, number(3)), None))],
                 [("x", "bool"), ("y", ("mod", 8))], [("u", ("sort", "E")), ("v", "bool")],
                 [("m", ("mod", 8)), ("k", "bool")]),
            node([
                (("y",), ("call", "f", (), ("or", X, Y))),
                block(
                    state("A", [(("y",), X), (("z",), ("call", "f", (X,), None))],
                          [(X, "then", "B"), (("if", X, X, X), "continue", "A")], [(TRUE, "then", "A")]),
                    state("B")),
                (("z",), ("arrow", X, Y)),
            ], [], name="main1"),
            sorts=[("E", ("C", "D", "F")), ("Two", ("One", "E"))], main="f")
        self.assertEqual(print_program(value), "\n".join([
            "sort E = C | D | F",
            "sort Two = One | E",
            "node f(x: bool, y: mod 8) -> (u: E, v: bool)",
            "var m: mod 8, k: bool",
            "(u, v) = g(x, 3:8)",
            "end",
            "node main1() -> (y: bool)",
            "y = f() every x or y",
            "states",
            "state A",
            "unless x then B",
            "unless if x then x else x continue A",
            "y = x",
            "z = f(x)",
            "until true then A",
            "state B",
            "end",
            "z = x -> y",
            "end",
            "main f",
        ]))

    def test_calls(self):
        for right, text in (
            (("call", "g", (), None), "g()"),
            (("call", "g", (("if", X, X, Y),), None), "g(if x then x else y)"),
            (("call", "g", (("arrow", X, Y), Y), FALSE), "g(x -> y, y) every false"),
            (("call", "g", (X,), ("if", X, X, Y)), "g(x) every if x then x else y"),
        ):
            for names, left in ((("y",), "y"), (("y", "z"), "(y, z)"), (("y", "z", "y"), "(y, z, y)")):
                text_of_all = print_program(program(node([(names, right)])))
                self.assertEqual(text_of_all.split("\n")[1], f"{left} = {text}")

    def test_no_empty_lines_and_no_spaces_at_ends(self):
        maker = Maker(4)
        for _ in range(100):
            for line in print_program(maker.program()).split("\n"):
                self.assertEqual(line, line.strip())
                self.assertNotEqual(line, "")
                self.assertNotIn("  ", line)

    def test_nothing_is_modified(self):
        maker = Maker(5)
        value = maker.program()
        self.assertEqual(print_program(value), print_program(value))
