"""[1.10] and [1.11]: reading expressions."""

import random
import string
import unittest

from everytick.errors import BadText
from everytick.printing import print_expression
from everytick.programs import is_expression
from everytick.reading import read_expression
from tests.samples import FALSE, Maker, SORTS, TRUE, X, Y, deep, number, same

A, B, C, D = ("var", "a"), ("var", "b"), ("var", "c"), ("var", "d")


class ReadingTest(unittest.TestCase):
    def reads(self, text, tree, sorts=SORTS):
        found = read_expression(sorts, text)
        self.assertTrue(same(found, tree), f"{text} gives {found}")
        self.assertTrue(is_expression(sorts, found))

    def fails(self, text, sorts=SORTS):
        with self.assertRaises(BadText, msg=text[:300]) as caught:
            read_expression(sorts, text)
        self.assertEqual(caught.exception.line, 1)


class TreesTest(ReadingTest):
    def test_the_document_s_example(self):
        self.reads("false -> pre x and not (y or x)",
                   ("arrow", FALSE, ("and", ("pre", X), ("not", ("or", Y, X)))), ())

    def test_what_binds_to_the_left(self):
        self.reads("a or b xor c", ("xor", ("or", A, B), C))
        self.reads("a xor b or c", ("or", ("xor", A, B), C))
        self.reads("a and b and c", ("and", ("and", A, B), C))
        self.reads("a - b + c", ("add", ("sub", A, B), C))
        self.reads("a - b - c", ("sub", ("sub", A, B), C))
        self.reads("a * b * c", ("mul", ("mul", A, B), C))
        self.reads("a when c when d", ("when", ("when", A, "c", True), "d", True))
        self.reads("a when not c when d is 3", ("when", ("when", A, "c", False), "d", 3))

    def test_what_binds_to_the_right(self):
        self.reads("a -> b -> c", ("arrow", A, ("arrow", B, C)))
        self.reads("a fby b fby c", ("fby", A, ("fby", B, C)))
        self.reads("a fby b -> c fby d", ("arrow", ("fby", A, B), ("fby", C, D)))
        self.reads("a -> b fby c -> d", ("arrow", A, ("arrow", ("fby", B, C), D)))

    def test_what_does_not_stand_side_by_side(self):
        for one in ("=", "<>", "<", "<="):
            for other in ("=", "<>", "<", "<="):
                self.fails(f"a {one} b {other} c")
        self.reads("(a = b) = c", ("eq", ("eq", A, B), C))
        self.reads("a < (b <= c)", ("less", A, ("leq", B, C)))

    def test_strengths(self):
        self.reads("not a and b", ("and", ("not", A), B))
        self.reads("a and not b", ("and", A, ("not", B)))
        self.reads("not a = b", ("not", ("eq", A, B)))
        self.reads("not not a", ("not", ("not", A)))
        self.reads("pre a + b", ("add", ("pre", A), B))
        self.reads("pre pre a when c", ("when", ("pre", ("pre", A)), "c", True))
        self.reads("a + b * c when d", ("add", A, ("mul", B, ("when", C, "d", True))))
        self.reads("a or b and c = d + a", ("or", A, ("and", B, ("eq", C, ("add", D, A)))))
        self.reads("if a then b else c -> d", ("if", A, B, ("arrow", C, D)))
        self.reads("if a then b else if b then c else d", ("if", A, B, ("if", B, C, D)))
        self.reads("if if a then b else c then d else a", ("if", ("if", A, B, C), D, A))
        self.reads("if a -> b then c fby d else a or b", ("if", ("arrow", A, B), ("fby", C, D), ("or", A, B)))
        self.reads("merge c (true -> a -> b) (false -> if a then b else d)",
                   ("merge", "c", ((True, ("arrow", A, B)), (False, ("if", A, B, D)))))
        self.reads("a when not c and b", ("and", ("when", A, "c", False), B))
        self.reads("merge c (true -> a) (false -> b) when d",
                   ("when", ("merge", "c", ((True, A), (False, B))), "d", True))
        self.reads("not merge c (1 -> a) (0 -> b) + d",
                   ("not", ("add", ("merge", "c", ((1, A), (0, B))), D)))

    def test_needed_parentheses(self):
        for text in ("a + not b", "pre not a", "a = not b", "a or if b then c else d", "not if a then b else c",
                     "pre if a then b else c", "a * not b", "(not a) + not b", "a -> if b then c else d",
                     "a fby if b then c else d", "pre pre not a"):
            self.fails(text)
        self.reads("a + (not b)", ("add", A, ("not", B)))
        self.reads("pre (a when c)", ("pre", ("when", A, "c", True)))
        self.reads("(a -> b) -> c", ("arrow", ("arrow", A, B), C))
        self.reads("(a fby b) fby c", ("fby", ("fby", A, B), C))
        self.reads("a or (b or c)", ("or", A, ("or", B, C)))
        self.reads("a - (b - c)", ("sub", A, ("sub", B, C)))
        self.reads("(if a then b else c) -> d", ("arrow", ("if", A, B, C), D))


class LeavesTest(ReadingTest):
    def test_constants(self):
        self.reads("true", TRUE)
        self.reads("false", FALSE)
        self.reads("0:8", number(0))
        self.reads("7:8", number(7))
        self.reads("31:32", number(31, 32))
        self.reads("10:11", number(10, 11))
        self.reads("Green", ("const", "Green", ("sort", "Color")))
        self.reads("Off", ("const", "Off", ("sort", "Red")))
        self.reads("Red", ("const", "Red", ("sort", "Color")))

    def test_numbers_out_of_bounds(self):
        for text in ("8:8", "0:1", "0:0", "0:33", "32:32", "33:40", "100:8", "0:100", "1" * 5000 + ":8",
                     "1:" + "8" * 5000):
            self.fails(text)

    def test_leading_zeros(self):
        for text in ("00:8", "01:8", "1:08", "007:8", "0:010", "a when c is 01", "merge c (00 -> a) (1 -> b)"):
            self.fails(text)

    def test_no_numbers(self):
        for text in ("5", ":8", "5:", "5:x", "x:8", "5:8:8", "-1:8", "1.0:8", "5 8", "1:8x", "x1:8", "0x1:8"):
            self.fails(text)

    def test_constructors_are_declared(self):
        self.fails("Green", ())
        self.fails("Color")
        self.fails("Yellow")
        self.fails("GREEN")

    def test_every_letter_and_digit(self):
        for letter in string.ascii_letters + string.digits:
            for name in (f"x{letter}", f"x{letter}9"):
                if letter.isupper():
                    self.fails(name)
                else:
                    self.reads(name, ("var", name))
            self.reads(f"x when c is Q{letter}", ("when", X, "c", f"Q{letter}"))
        for letter in string.ascii_lowercase:
            self.reads(letter + "0", ("var", letter + "0"))
            self.reads(f"x when c is {letter.upper()}0", ("when", X, "c", letter.upper() + "0"))
            for text in (f"1:8{letter}", f"{letter}:8", f"1{letter}:8"):
                self.fails(text)

    def test_every_number(self):
        for n in range(2, 33):
            for k in range(n):
                self.reads(f"{k}:{n}", number(k, n))
            self.fails(f"{n}:{n}")
        for k in range(32):
            self.reads(f"x when c is {k}", ("when", X, "c", k))

    def test_names(self):
        self.reads("longname", ("var", "longname"))
        self.reads("for", ("var", "for"))
        self.reads("trues", ("var", "trues"))
        for text in ("longnames", "aB", "1a", "a_b", "x y", "and", "node", "main", "is", "mod", "bool", "state"):
            self.fails(text)


class WhenAndMergeTest(ReadingTest):
    def test_when(self):
        self.reads("a when c", ("when", A, "c", True))
        self.reads("a when not c", ("when", A, "c", False))
        self.reads("a when c is 0", ("when", A, "c", 0))
        self.reads("a when c is 1", ("when", A, "c", 1))
        self.reads("a when c is 31", ("when", A, "c", 31))
        self.reads("a when c is Green", ("when", A, "c", "Green"))
        self.reads("a when c is Undecl", ("when", A, "c", "Undecl"))
        self.reads("a when c is Undecl", ("when", A, "c", "Undecl"), ())

    def test_wrong_when(self):
        for text in ("a when", "when c", "a when not", "a when c is", "a when c is true", "a when c is false",
                     "a when c is 32", "a when c is 100", "a when c is x", "a when true", "a when C",
                     "a when not not c", "a when not c is 1", "a when (c)", "a when c is (1)", "a when 1",
                     "a when c is 1:8", "a when c d", "a when c is Longnames", "a is 1", "a when c is not"):
            self.fails(text)

    def test_merge(self):
        self.reads("merge c (true -> a) (false -> b)", ("merge", "c", ((True, A), (False, B))))
        self.reads("merge c (1 -> a) (true -> b) (0 -> c) (false -> d) (Zz -> a)",
                   ("merge", "c", ((1, A), (True, B), (0, C), (False, D), ("Zz", A))), ())
        self.reads("merge c (31 -> (a)) (Green -> b)", ("merge", "c", ((31, A), ("Green", B))))

    def test_wrong_merge(self):
        for text in ("merge", "merge c", "merge c (true -> a)", "merge (true -> a) (false -> b)",
                     "merge c true -> a", "merge c (true a) (false b)", "merge c (true -> a) (false -> b",
                     "merge c (x -> a) (false -> b)", "merge c (true -> ) (false -> b)", "merge C (1 -> a) (2 -> b)",
                     "merge c (true -> a) (true -> b)", "merge c (1 -> a) (1 -> b)", "merge c (A -> a) (A -> b)",
                     "merge c (32 -> a) (1 -> b)", "merge c (1:8 -> a) (2:8 -> b)", "merge c (not -> a) (true -> b)",
                     "merge c ((true) -> a) (false -> b)", "merge c (true -> a), (false -> b)",
                     "merge c (true -> a) (false -> b) (", "(merge c (true -> a) (false -> b)) (1 -> a)",
                     "merge c ((true -> a)) (false -> b)", "merge not (true -> a) (false -> b)",
                     "merge c () (true -> a)"):
            self.fails(text)

    def test_numbers_of_branches(self):
        for many in range(36):
            labels = [str(k) for k in range(32)] + ["true", "false", "A", "B"]
            text = " ".join(["merge c"] + [f"({label} -> a)" for label in labels[:many]])
            if 2 <= many <= 32:
                self.assertEqual(len(read_expression((), text)[2]), many)
            else:
                self.fails(text)


class FreedomsTest(ReadingTest):
    def test_spaces(self):
        self.reads("  a   and b ", ("and", A, B))
        self.reads("3 : 8", number(3))
        self.reads("a->b", ("arrow", A, B))
        self.reads("a<b", ("less", A, B))
        self.reads("a<=b", ("leq", A, B))
        self.reads("a<>b", ("ne", A, B))
        self.reads("a=b", ("eq", A, B))
        self.reads("a-b*c+d", ("add", ("sub", A, ("mul", B, C)), D))
        self.reads("(a)and(b)", ("and", A, B))
        self.reads("not(a)or(b)", ("or", ("not", A), B))
        self.reads("if(a)then(b)else(c)", ("if", A, B, C))
        self.reads("pre(a)fby(b)", ("fby", ("pre", A), B))
        self.reads("merge c(true->a)(false->b)", ("merge", "c", ((True, A), (False, B))))
        self.reads("( a )when c is  Green", ("when", A, "c", "Green"))
        self.reads("1:8->2:8", ("arrow", number(1), number(2)))

    def test_signs_of_two_marks_are_not_parted(self):
        for text in ("a - > b", "a < = b", "a < > b", "a > b", "a >= b", "a == b", "a != b", "a <- b", "a =< b"):
            self.fails(text)

    def test_words_and_digits_are_parted(self):
        for text in ("nota b", "a andb", "1:8and a", "ifa then b else c", "a when c is3", "1 0:11", "a whenc",
                     "mergec (true -> a) (false -> b)", "a when c isGreen"):
            self.fails(text)
        for text in ("prea", "aandb", "true1"):
            self.reads(text, ("var", text))
        self.reads("a when notc is 1", ("when", A, "notc", 1))

    def test_spaces_do_not_part_signs_alone(self):
        text = "if a then b + 3:8 when c is Green else merge x (true -> pre a) (false -> not (a <= b))"
        tree = read_expression(SORTS, text)
        self.assertTrue(same(read_expression(SORTS, text.replace(" ", "   ")), tree))
        self.assertTrue(same(read_expression(SORTS, text.replace("(", " ( ").replace(":", " : ")), tree))
        self.assertTrue(same(read_expression(SORTS, text.replace(" + ", "+").replace(" -> ", "->")), tree))

    def test_parentheses_that_are_not_needed(self):
        self.reads("(a)", A)
        self.reads("((a) and ((b)))", ("and", A, B))
        self.reads("(3:8) + ((4:8))", ("add", number(3), number(4)))
        self.reads("(pre (a))", ("pre", A))
        self.reads("(a when c)", ("when", A, "c", True))
        self.reads("(a * b) + c", ("add", ("mul", A, B), C))
        self.reads("if (a) then (b) else (c)", ("if", A, B, C))

    def test_random_parentheses_and_spaces(self):
        chooser = random.Random(6)
        maker = Maker(7)
        for _ in range(300):
            tree = maker.tree(4)
            self.reads(self.loose(tree, chooser), tree)

    def loose(self, tree, chooser):
        """The text of a tree with all parts in parentheses, and some more of them and spaces."""
        word = tree[0]
        if word in ("var", "const"):
            text = print_expression(tree)
        elif word == "merge":
            text = f"merge {tree[1]}" + "".join(
                f"( {print_expression(('when', X, 'c', label)).split(' ')[-1]} -> {self.loose(part, chooser)})"
                if not isinstance(label, bool) else f"({str(label).lower()}->{self.loose(part, chooser)} )"
                for label, part in tree[2])
        elif word == "when":
            text = f"({self.loose(tree[1], chooser)})" + print_expression(("when", X, tree[2], tree[3]))[1:]
        else:
            parts = ["(" + self.loose(part, chooser) + ")" for part in tree[1:]]
            text = print_expression((word, ("var", "p"), ("var", "q"), ("var", "r"))[:len(tree)])
            for name, part in zip("pqr", parts):
                text = " ".join(part if piece == name else piece for piece in text.split(" "))
        return f"{' ' * chooser.randrange(3)}({text})" if chooser.random() < 0.3 else text


class BoundsTest(ReadingTest):
    def test_parentheses_inside_each_other(self):
        for many in (1, 39, 40):
            self.reads("(" * many + "x" + ")" * many, X)
            self.reads("(" * many + "x + 1:8" + ")" * many, ("add", X, number(1)))
            self.reads("not " + "(" * many + "x" + ")" * many, ("not", X))
        for many in (41, 42, 100, 5000):
            self.fails("(" * many + "x" + ")" * many)
            self.fails("a and " + "(" * many + "x" + ")" * many)

    def test_parentheses_beside_each_other_do_not_count(self):
        text = "(" * 40 + "x" + ")" * 40
        self.reads(f"{text} and {text}", ("and", X, X))
        self.reads(f"merge c (true -> {text[1:-1]}) (false -> {text[1:-1]})", ("merge", "c", ((True, X), (False, X))))

    def test_if_counts(self):
        for many in (39, 40):
            text = "(" * many + "if x then x else x" + ")" * many
            if many == 39:
                self.reads(text, ("if", X, X, X))
            else:
                self.fails(text)
        for form in ("if {} then x else x", "if x then {} else x", "if x then x else {}"):
            self.reads(form.format("(" * 39 + "y" + ")" * 39),
                       ("if",) + tuple(Y if part == "{}" else X for part in form.split(" ")[1::2]))
            self.fails(form.format("(" * 40 + "y" + ")" * 40))

    def test_merge_counts(self):
        self.reads("(" * 39 + "merge c (true -> x) (false -> y)" + ")" * 39, ("merge", "c", ((True, X), (False, Y))))
        self.fails("(" * 40 + "merge c (true -> x) (false -> y)" + ")" * 40)
        self.fails("merge c (true -> " + "(" * 40 + "x" + ")" * 40 + ") (false -> y)")
        self.fails("merge c (true -> y) (false -> " + "(" * 40 + "x" + ")" * 40 + ")")

    def test_depths(self):
        for depth, good in ((19, True), (20, True), (21, False), (22, False), (200, False), (5000, False)):
            texts = {
                "not " * (depth - 1) + "x": True,
                "pre " * (depth - 1) + "x": True,
                "x -> " * (depth - 1) + "x": True,
                "x fby " * (depth - 1) + "x": True,
                "x" + " + x" * (depth - 1): True,
                "x" + " and x" * (depth - 1): True,
                "x" + " when c" * (depth - 1): True,
                "x" + " when c is 3" * (depth - 1): True,
                "if x then x else " * (depth - 1) + "x": True,
                "if " * (depth - 1) + "x" + " then x else x" * (depth - 1): True,
                "merge c (true -> x) (false -> " * (depth - 1) + "x" + ")" * (depth - 1): True,
            }
            for text in texts:
                if good:
                    self.assertTrue(is_expression((), read_expression((), text)))
                else:
                    self.fails(text)
        self.reads("not " * 19 + "x", deep(20))

    def test_depths_of_mixed_trees(self):
        chain = "x" + " + x" * 18
        self.assertTrue(is_expression((), read_expression((), f"not ({chain})")))
        for text in (f"not not ({chain})", f"pre (({chain}) when c)", f"if x then ({chain}) + x + x else x",
                     f"merge c (true -> {chain} + x) (false -> x)", f"x -> x -> {chain}", f"{chain} + x + x",
                     f"if {chain} + x then x else x", f"not ({chain}) + x"):
            self.fails(text)
        self.assertTrue(is_expression((), read_expression((), f"(((({chain} + x))))")))


class SpoiltTest(ReadingTest):
    def test_nothing(self):
        for text in ("", " ", "()", "( )", "(", ")"):
            self.fails(text)

    def test_signs_left_or_missing(self):
        for text in ("a b", "a and", "and a", "a and and b", "(a", "a)", "a (b)", "f(x)", "f()", "a, b", "a | b",
                     "if a then b", "if a else b", "if a then b else", "if then b else c", "then a", "not", "pre",
                     "a not b", "a pre b", "a ->", "-> a", "- a", "+ a", "a + + b", "* a", "a = ", "= a", "a fby",
                     "(a, b)", "a every b", "(a) (b)", "1:8 2:8", "true false", "a or or b", "a : b", "true:8", "a;b"):
            self.fails(text)

    def test_other_characters(self):
        for sign in "!\"#$%&'./;>?@[]^_`{}~\\\t":
            for text in (sign, f"a {sign} b", f"a{sign}", f"{sign}a"):
                self.fails(text)

    def test_each_sign_taken_out(self):
        text = "if a then merge c ( true -> b ) ( false -> 3 : 8 ) else d when c is Green"
        pieces = text.split(" ")
        self.assertTrue(is_expression(SORTS, read_expression(SORTS, text)))
        for k in range(len(pieces)):
            self.fails(" ".join(pieces[:k] + pieces[k + 1:]))

    def test_random_texts_never_break(self):
        chooser = random.Random(8)
        pieces = ["a", "b", "(", ")", "if", "then", "else", "not", "pre", "merge", "c", "true", "->", "fby", "when",
                  "is", "3", ":", "8", "Green", "+", "*", "=", "<", "<=", "or", "and", ",", "(true ->", "(false ->"]
        for _ in range(3000):
            text = " ".join(chooser.choice(pieces) for _ in range(chooser.randint(1, 9)))
            try:
                tree = read_expression(SORTS, text)
            except BadText as bad:
                self.assertEqual(bad.line, 1)
            else:
                self.assertTrue(is_expression(SORTS, tree))
                self.assertTrue(same(read_expression(SORTS, print_expression(tree)), tree))
