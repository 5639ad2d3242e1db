"""[1.9], [1.11] and [1.12]: reading programs."""

import random
import re
import unittest

from everytick.errors import BadText
from everytick.printing import print_program
from everytick.program_texts import read_program
from everytick.programs import is_program
from tests.samples import TRUE, Maker, X, Y, block, node, number, one_node, program, same, state

TEXT = """sort E = C | D | F
sort Two = One | E
node f(x: bool, y: mod 8) -> (u: E, v: bool)
var m: mod 8, k: bool
(u, v) = g(x, y + 1:8) every k
m = merge x (true -> y) (false -> 3:8)
states
state A
unless x then B
unless k continue A
k = true -> x
until u = C then A
until true continue B
state B
k = not pre k
end
end
node g() -> (y: bool)
y = true
end
main f"""
LINES = TEXT.split("\n")


def with_line(n, *lines):
    """The text with other lines in the place of line n, from 1 on."""
    return "\n".join(LINES[:n - 1] + list(lines) + LINES[n:])


def small_program(*lines, header="node f(x: bool) -> (y: bool)"):
    return "\n".join([header, *lines, "end", "main f"])


class TextsTest(unittest.TestCase):
    def reads(self, text, value):
        found = read_program(text)
        self.assertTrue(same(found, value), f"{text} gives {found}")
        self.assertTrue(is_program(found))

    def fails(self, text, line):
        with self.assertRaises(BadText, msg=text[:500]) as caught:
            read_program(text)
        self.assertEqual(caught.exception.line, line, text[:500])


class ReadingTest(TextsTest):
    def test_a_whole_program(self):
        e = ("sort", "E")
        self.reads(TEXT, program(
            node([
                (("u", "v"), ("call", "g", (X, ("add", Y, number(1))), ("var", "k"))),
                (("m",), ("merge", "x", ((True, Y), (False, number(3))))),
                block(
                    state("A", [(("k",), ("arrow", TRUE, X))],
                          [(X, "then", "B"), (("var", "k"), "continue", "A")],
                          [(("eq", ("var", "u"), ("const", "C", e)), "then", "A"), (TRUE, "continue", "B")]),
                    state("B", [(("k",), ("not", ("pre", ("var", "k"))))])),
            ], [("x", "bool"), ("y", ("mod", 8))], [("u", e), ("v", "bool")], [("m", ("mod", 8)), ("k", "bool")]),
            node([(("y",), TRUE)], [], name="g"),
            sorts=[("E", ("C", "D", "F")), ("Two", ("One", "E"))], main="f"))
        self.assertEqual(print_program(read_program(TEXT)), TEXT)

    def test_reading_gives_programs_back(self):
        for seed in range(400):
            value = Maker(seed).program()
            self.reads(print_program(value), value)

    def test_without_sorts(self):
        for seed in range(100):
            value = Maker(seed, ()).program()
            self.reads(print_program(value), value)

    def test_undeclared_names_are_read(self):
        tree = ("merge", "q", (("Undecl", X), ("Other", ("when", X, "w", "Undecl2"))))
        value = one_node((("z",), tree), (("p", "p"), ("call", "nope", (), None)), main="other")
        self.reads(print_program(value), value)

    def test_the_greatest_programs(self):
        sorts = tuple((f"Sort{k}", tuple(f"C{k}x{j}" for j in range(8))) for k in range(8))
        equation = (tuple(f"longna{k:02}" for k in range(8)), ("call", "callee12", (X,) * 12, X))
        rows = tuple((X, "then", "State1") for _ in range(4))
        states = ("states", tuple((f"State{k}", (equation,) * 24, rows, rows) for k in range(6)))
        nodes = tuple((f"n{k}", tuple((f"v{j}", ("mod", 32)) for j in range(8)), (("y", "bool"),),
                       tuple((f"w{j}", ("sort", "Sort7")) for j in range(15)), (states,) * 40 if k == 3 else (equation,))
                      for k in range(12))
        value = (sorts, nodes, "n11")
        self.reads(print_program(value), value)


class FreedomsTest(TextsTest):
    def test_empty_lines(self):
        value = read_program(TEXT)
        self.reads("\n\n" + TEXT.replace("\n", "\n\n  \n") + "\n\n", value)
        self.reads(TEXT + "\n", value)
        self.reads("\n" + TEXT, value)

    def test_empty_lines_count(self):
        self.fails("\n\nnode f(x: bool) -> (y: bool)\n\ny = = x\nend\nmain f", 5)
        self.fails("\n   \nmain f", 3)

    def test_spaces(self):
        value = read_program(TEXT)
        self.reads("\n".join("  " + line.replace(" ", "   ") + "  " for line in LINES), value)
        self.reads(re.sub(r"([^\w\s<>-])", r" \1 ", TEXT), value)
        self.reads(re.sub(r"([^\w\s<>=-])", r" \1 ", TEXT), value)
        self.reads(re.sub(r" *(->|[^\w\s]) *", r"\1", TEXT), value)

    def test_signs_alone_part_words(self):
        value = read_program(TEXT)
        text = TEXT.replace("(u, v) = ", "(u,v)=").replace(" -> (u", "->(u").replace("every k", "every(k)")
        text = text.replace("unless x then", "unless(x)then").replace("until true continue", "until(true)continue")
        text = text.replace("merge x (true -> y) (", "merge x(true->y)(").replace("C | D | F", "C|D|F")
        self.reads(text, value)

    def test_words_have_to_be_parted(self):
        for n, line in ((1, "sortE = C | D | F"), (3, "nodef(x: bool, y: mod 8) -> (u: E, v: bool)"),
                        (3, "node f(x: bool, y: mod8) -> (u: E, v: bool)"), (4, "varm: mod 8, k: bool"),
                        (8, "stateA"), (9, "unlessx then B"), (9, "unless x thenB"), (9, "unless xthen B"),
                        (5, "(u, v) = g(x, y + 1:8)everyk"), (18, "nodeg() -> (y: bool)"), (21, "mainf")):
            self.fails(with_line(n, line), n)

    def test_parentheses_that_are_not_needed(self):
        value = read_program(TEXT)
        text = TEXT.replace("g(x, y + 1:8) every k", "g((x), ((y) + (1:8))) every ((k))")
        text = text.replace("unless x then", "unless ((x)) then").replace("true -> x", "(true) -> (x)")
        self.reads(text.replace("not pre k", "(not (pre (k)))"), value)

    def test_many_parentheses(self):
        for many, good in ((40, True), (41, False), (3000, False)):
            tree = "(" * many + "x" + ")" * many
            for line in (f"y = {tree}", f"y = g({tree}, x)", f"y = g(x) every {tree}", f"(y, y) = g(x, {tree})"):
                if good:
                    self.assertTrue(is_program(read_program(small_program(line))))
                else:
                    self.fails(small_program(line), 2)


class SpoiltLinesTest(TextsTest):
    def test_each_line_left_out(self):
        fine = (2, 4, 5, 6, 9, 10, 11, 12, 13, 15)
        # Without the sort the next use of it is told, without the end of the block the one of the node.
        others = {1: 2, 16: 17}
        for n in range(1, len(LINES) + 1):
            if n in fine:
                self.assertTrue(is_program(read_program(with_line(n))), n)
            else:
                self.fails(with_line(n), others.get(n, n))

    def test_each_line_twice(self):
        for n in range(1, len(LINES) + 1):
            text = with_line(n, LINES[n - 1], LINES[n - 1])
            if n in (5, 6, 9, 10, 11, 12, 13, 15, 19):
                self.assertTrue(is_program(read_program(text)))
            elif n == 16:
                self.fails(text, 18)
            else:
                self.fails(text, n + 1)

    def test_each_line_with_something_more(self):
        for n in range(1, len(LINES) + 1):
            for more in (" x", " )", " (", " =", " end", " 8", " |", ","):
                self.fails(with_line(n, LINES[n - 1] + more), n)
            self.fails(with_line(n, "x " + LINES[n - 1]), n)
            self.fails(with_line(n, ") " + LINES[n - 1]), n)

    def test_each_line_cut(self):
        for n in range(1, len(LINES) + 1):
            words = LINES[n - 1].split(" ")
            for k in range(1, len(words)):
                text = with_line(n, " ".join(words[:k]))
                if " ".join(words[:k]) in ("sort E = C | D", "(u, v) = g(x, y + 1:8)", "k = true", "sort Two = One |"):
                    continue
                self.fails(text, n)

    def test_each_line_spoilt(self):
        for n in range(1, len(LINES) + 1):
            for sign in "!\"#$%&'./;>?@[]^_`{}~\\\t":
                self.fails(with_line(n, LINES[n - 1] + sign), n)
                self.fails(with_line(n, sign + LINES[n - 1]), n)

    def test_lines_in_the_wrong_place(self):
        # For each line: before which lines it may stand, and where another line than itself is told.
        table = {
            "sort Q = R | S": ((1, 2, 3), {}),
            "node h() -> (y: bool)": ((), {1: 2, 2: 3, 3: 4, 18: 19, 21: 22}),
            "var w: bool": ((19,), {4: 5}),
            "y = true": ((5, 6, 7, 11, 12, 15, 16, 17, 19, 20), {4: 5, 9: 10, 10: 11}),
            "states": ((), {4: 5, 5: 6, 6: 7, 7: 8, 17: 18, 19: 20, 20: 21}),
            "state Q": ((8, 9, 10, 11, 12, 13, 14, 15, 16), {}),
            "unless x then A": ((9, 10, 11, 15), {}),
            "until x then A": ((12, 13, 14, 16), {9: 10, 10: 11, 11: 12, 15: 16}),
            "end": ((), {6: 7, 7: 8, 15: 18, 16: 18, 17: 18, 20: 21}),
            "main f": ((), {18: 19, 21: 22}),
            "sort": ((), {}),
            "foo": ((), {}),
        }
        for line, (fine, others) in table.items():
            for n in range(1, len(LINES) + 2):
                text = "\n".join(LINES[:n - 1] + [line] + LINES[n - 1:])
                if n in fine:
                    self.assertTrue(is_program(read_program(text)), (n, line))
                else:
                    self.fails(text, others.get(n, n))

    def test_the_order_of_lines(self):
        head = "node f(x: bool) -> (y: bool)"
        self.fails(f"{head}\ny = x\nend\nsort E = A | B\nmain f", 4)
        self.fails(f"main f\n{head}\ny = x\nend", 1)
        self.fails(f"{head}\ny = x\nend\nmain f\n{head}", 5)
        self.fails(f"{head}\ny = x\nend\nmain f\nmain f", 5)
        self.fails(f"{head}\ny = x\nend\nmain f\n\n\nend", 7)
        self.fails(f"{head}\ny = x\nvar m: bool\nend\nmain f", 3)
        self.fails(f"{head}\nvar k: bool\nvar m: bool\ny = x\nend\nmain f", 3)
        self.fails(f"var k: bool\n{head}\ny = x\nend\nmain f", 1)
        self.fails(f"{head}\nmain f\nend", 2)
        self.fails(f"{head}\ny = x\n{head}\ny = x\nend\nmain f", 3)
        self.fails("end\nmain f", 1)
        self.fails("main f", 1)
        self.fails("y = x", 1)
        self.fails("hello", 1)

    def test_the_order_in_a_block(self):
        def text(*lines):
            return small_program("states", *lines, "end")

        self.assertTrue(is_program(read_program(text("state A", "state B"))))
        self.fails(text("state A", "y = x", "unless x then A", "state B"), 5)
        self.fails(text("state A", "until x then A", "unless x then A", "state B"), 5)
        self.fails(text("state A", "until x then A", "y = x", "state B"), 5)
        self.fails(text("y = x", "state A", "state B"), 3)
        self.fails(text("unless x then A", "state A", "state B"), 3)
        self.fails(text("state A", "states", "state B"), 4)
        self.fails(text("state A", "state B", "end", "state C"), 6)
        self.fails(text(), 3)
        self.fails(text("state A"), 4)
        self.fails(small_program("states", "state A", "state B"), 6)
        self.fails(small_program("state A", "y = x"), 2)
        self.fails(small_program("unless x then A"), 2)
        self.fails(small_program("until x then A"), 2)

    def test_missing_lines(self):
        for n in range(1, len(LINES)):
            self.fails("\n".join(LINES[:n]), n + 1)
        self.fails("\n\n" + LINES[2].replace("E", "bool"), 4)

    def test_nodes_without_equations(self):
        self.fails("node f(x: bool) -> (y: bool)\nend\nmain f", 2)
        self.fails("node f(x: bool) -> (y: bool)\nvar k: bool\nend\nmain f", 3)

    def test_headers(self):
        for header in ("node f(x: bool)", "node f -> (y: bool)", "node f(x: bool) -> ()", "node f(x: bool) -> y: bool",
                       "node F(x: bool) -> (y: bool)", "node main() -> (y: bool)", "node f(x) -> (y: bool)",
                       "node f(x: bool y: bool) -> (y: bool)", "node f(x: bool,) -> (y: bool)",
                       "node f(, x: bool) -> (y: bool)", "node f(x: boole) -> (y: bool)", "node (x: bool) -> (y: bool)",
                       "node f(x: mod) -> (y: bool)", "node f(x: mod x) -> (y: bool)", "node f(X: bool) -> (y: bool)",
                       "node f((x: bool)) -> (y: bool)", "node f(x: bool) - > (y: bool)", "f(x: bool) -> (y: bool)",
                       "node f(x: bool) -> (y: bool) -> (z: bool)", "node f(x: bool; y: bool) -> (y: bool)",
                       "node f(x, z: bool) -> (y: bool)", "node f(x: bool: bool) -> (y: bool)", "node", "node f"):
            self.fails(small_program("y = x", header=header), 1)
        self.assertTrue(is_program(read_program(small_program("y = x", header="node f() -> (y: bool)"))))

    def test_equations(self):
        for line in ("y", "y =", "= x", "y = x = x = x", "() = x", "(y) = x", "(y, z) = x", "(y, z) = (g(x))", "y, z = g()",
                     "Y = x", "y = g(x", "y = g x)", "y = g(x,)", "y = g(,x)", "y = g(x) every", "y = g(x) every every",
                     "y = x every x", "y = g(x) + x", "y = not g(x)", "y = g(x) x", "y = g(g(x))", "y = g() every g()",
                     "y = G(x)", "(y, Z) = g()", "(y z) = g()", "(y,, z) = g()", "(y, z = g()", "y == x", "y -> x",
                     "node = x", "end = x", "state = x", "y = (g(x))", "((y, z)) = g()", "g(x)", "y = every(x)"):
            self.fails(small_program("y = x", line), 3)
        self.assertTrue(is_program(read_program(small_program("y = y(y) every y"))))

    def test_transitions(self):
        for line in ("unless x", "unless then B", "unless x then", "unless x then b", "unless x then B B", "unless",
                     "unless x B", "unless x then then B", "unless x else B", "unless x continue", "unless f(x) then B",
                     "unless x then continue B", "until", "until x", "until x then b", "until x or then B",
                     "until x continue 3", "until x then B every x"):
            self.fails(small_program("states", "state A", line, "state B", "end"), 4)
        for line in ("unless x then B", "until if x then x else x then Zz", "unless x -> x continue A"):
            self.assertTrue(is_program(read_program(small_program("states", "state A", line, "state B", "end"))))


class BrokenFormsTest(TextsTest):
    def with_sorts(self, *lines):
        return "\n".join(lines) + "\n" + small_program("y = x")

    def good(self, text):
        self.assertTrue(is_program(read_program(text)))

    def test_sorts(self):
        self.good(self.with_sorts(*[f"sort E{k} = A{k} | B{k}" for k in range(8)]))
        for many in (9, 10):
            self.fails(self.with_sorts(*[f"sort E{k} = A{k} | B{k}" for k in range(many)]), 9)
        self.good(self.with_sorts("sort E = " + " | ".join(f"A{k}" for k in range(8))))
        self.fails(self.with_sorts("sort E = " + " | ".join(f"A{k}" for k in range(9))), 1)
        self.fails(self.with_sorts("sort E = A"), 1)
        self.fails(self.with_sorts("sort E = A | A"), 1)
        self.fails(self.with_sorts("sort E = A | B", "sort E = C | D"), 2)
        self.fails(self.with_sorts("sort E = A | B", "sort F = C | D", "sort G = H | A"), 3)
        self.good(self.with_sorts("sort E = E | F", "sort F = G | H"))
        for line in ("sort", "sort E", "sort E =", "sort E = A |", "sort E = | A", "sort E = A B", "sort e = A | B",
                     "sort E = a | B", "sort E A | B", "sort E = A, B", "sort E = A || B", "sort E = (A | B)",
                     "sort Longnames = A | B", "sort E = A | Longnames", "sort E = A | B | 3", "sort sort = A | B"):
            self.fails(self.with_sorts(line), 1)

    def test_names_out_of_bounds(self):
        self.fails(small_program("y = longnames"), 2)
        self.fails(small_program("longnames = x"), 2)
        self.fails(small_program("y = longnames(x)"), 2)
        self.fails(small_program("y = x", header="node longnames(x: bool) -> (y: bool)"), 1)
        self.fails(small_program("y = x", header="node f(longnames: bool) -> (y: bool)"), 1)
        self.fails(small_program("var longnames: bool", "y = x"), 2)
        self.fails(small_program("y = x").replace("main f", "main longnames"), 4)
        self.fails(small_program("y = x").replace("main f", "main F"), 4)
        self.fails(small_program("y = x").replace("main f", "main main"), 4)
        self.fails(small_program("states", "state Longnames", "state B", "end"), 3)

    def test_numbers_out_of_bounds(self):
        for text, good in (("2", True), ("32", True), ("1", False), ("33", False), ("0", False), ("02", False),
                           ("100", False), ("9" * 5000, False)):
            for header in (f"node f(x: mod {text}) -> (y: bool)", f"node f(x: bool) -> (y: mod {text})"):
                if good:
                    self.good(small_program("y = x", header=header))
                else:
                    self.fails(small_program("y = x", header=header), 1)
            line = f"y = 0:{text}"
            if good:
                self.good(small_program(line))
                self.good(small_program(f"var k: mod {text}", line))
            else:
                self.fails(small_program(line), 2)
                self.fails(small_program(f"var k: mod {text}", line), 2)

    def test_declared_sorts_and_constructors(self):
        self.fails(small_program("y = x", header="node f(x: E) -> (y: bool)"), 1)
        self.fails(small_program("y = x", header="node f(x: bool) -> (y: E)"), 1)
        self.fails(small_program("var k: E", "y = x"), 2)
        self.fails(small_program("y = x", "y = A"), 3)
        self.fails(small_program("y = g(A)"), 2)
        self.fails(small_program("states", "state A", "unless x = A then A", "state B", "end"), 4)
        self.good("sort E = A | B\n" + small_program("var k: E", "y = A"))
        self.fails("sort E = A | B\n" + small_program("var k: A", "y = B"), 3)
        self.fails("sort E = A | B\n" + small_program("y = E"), 3)
        self.fails(small_program("y = A") + "\nsort E = A | B", 2)

    def test_numbers_of_nodes(self):
        def text(many):
            return "\n".join(f"node f{k}() -> (y: bool)\ny = true\nend" for k in range(many)) + "\nmain f"

        self.good(text(1))
        self.good(text(12))
        self.fails(text(13), 37)
        self.fails(text(20), 37)

    def test_numbers_of_variables(self):
        def row(letter, many):
            return ", ".join(f"{letter}{k}: bool" for k in range(many))

        for ins, outs, inner in ((23, 1, 0), (0, 24, 0), (12, 12, 0), (0, 1, 23), (10, 4, 10), (22, 1, 1)):
            def text(one, two, three):
                lines = [f"var {row('c', three)}"] if three else []
                return small_program(*lines, "y = true", header=f"node f({row('a', one)}) -> ({row('b', two)})")

            self.good(text(ins, outs, inner))
            self.fails(text(ins + 1, outs, inner), 2 if inner else 1)
            self.fails(text(ins, outs + 1, inner), 2 if inner else 1)
            self.fails(text(ins, outs, inner + 1), 2)
        self.fails(small_program("var", "y = x"), 2)
        self.fails(small_program("var k", "y = x"), 2)
        self.fails(small_program("var k: bool,", "y = x"), 2)

    def test_double_variables_are_read(self):
        self.good(small_program("var x: bool, x: mod 3", "y = x", header="node f(x: bool, x: bool) -> (x: bool)"))

    def test_numbers_of_equations(self):
        for many in (1, 40):
            self.good(small_program(*["y = x"] * many))
        for many in (41, 50):
            self.fails(small_program(*["y = x"] * many), 42)
        two = ["states", "state A", "state B", "end"]
        self.good(small_program(*["y = x"] * 39, *two))
        self.fails(small_program(*["y = x"] * 40, *two), 42)
        self.fails(small_program(*two * 41), 162)
        self.fails(small_program(*two, *["y = x"] * 40), 45)

    def test_numbers_of_names_and_arguments(self):
        for many in range(2, 11):
            text = small_program(f"({', '.join(['y'] * many)}) = g(x)")
            if many <= 8:
                self.good(text)
            else:
                self.fails(text, 2)
        for many in range(15):
            text = small_program("y = x", f"y = g({', '.join(['x'] * many)})")
            if many <= 12:
                self.good(text)
            else:
                self.fails(text, 3)

    def test_depths(self):
        for line in ("y = {}", "y = g({})", "y = g() every {}", "(y, z) = g(x, {}) every x"):
            self.good(small_program(line.format("not " * 19 + "x")))
            self.fails(small_program("y = x", line.format("not " * 20 + "x")), 3)
        for line in ("unless {} then A", "until {} continue A"):
            text = small_program("states", "state A", line, "state B", "end")
            self.good(text.format("not " * 19 + "x"))
            self.fails(text.format("not " * 20 + "x"), 4)

    def test_labels(self):
        self.good(small_program("y = x when x is 31"))
        self.fails(small_program("y = x when x is 32"), 2)
        self.fails(small_program("y = merge x (true -> x) (true -> x)"), 2)
        self.fails(small_program("y = merge x (true -> x)"), 2)

    def test_states(self):
        def text(many):
            return small_program("y = x", "states", *[f"state S{k}" for k in range(many)], "end")

        for many in range(10):
            if 2 <= many <= 6:
                self.good(text(many))
            else:
                self.fails(text(many), 4 + min(many, 6))
        self.fails(small_program("states", "state A", "state A", "end"), 4)
        self.fails(small_program("states", "state A", "y = x", "state B", "y = x", "state A", "end"), 7)
        self.good(small_program(*["states", "state A", "state B", "end"] * 2))

    def test_numbers_in_states(self):
        def text(unless, equations, until):
            return small_program("states", "state A", *["unless x then A"] * unless, *["y = x"] * equations,
                                 *["until x then A"] * until, "state B", "end")

        self.good(text(4, 24, 4))
        self.good(text(0, 0, 0))
        self.fails(text(5, 24, 4), 8)
        self.fails(text(4, 25, 4), 32)
        self.fails(text(4, 24, 5), 36)
        self.fails(text(0, 25, 0), 28)

    def test_random_lines_never_break(self):
        chooser = random.Random(9)
        for _ in range(2000):
            lines = list(LINES)
            for _ in range(chooser.randint(1, 2)):
                k = chooser.randrange(len(lines))
                pieces = lines[k].split(" ")
                change = chooser.randrange(4)
                if change == 0 and len(pieces) > 1:
                    pieces.pop(chooser.randrange(len(pieces)))
                elif change == 1:
                    pieces.insert(chooser.randrange(len(pieces) + 1), chooser.choice(chooser.choice(LINES).split(" ")))
                elif change == 2:
                    pieces = chooser.choice(LINES).split(" ")
                else:
                    pieces = []
                lines[k] = " ".join(pieces)
            try:
                value = read_program("\n".join(lines))
            except BadText as bad:
                self.assertTrue(1 <= bad.line <= len(lines) + 1)
            else:
                self.assertTrue(is_program(value))
                self.reads(print_program(value), value)
