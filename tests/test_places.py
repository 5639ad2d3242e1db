"""[3.2] and [3.3]: places and links."""

import unittest

from everytick.kinds import fits
from everytick.places import expression_at, linked, places_of
from everytick.program_texts import read_program
from tests.clock_oracle import all_links, trees_of
from tests.fitting import Fitting

TEXT = """node g(a: bool, b: bool) -> (c: bool, d: bool)
c = a
d = b
end
node f(x: bool, n: mod 2) -> (y: bool)
var u: bool, v: bool, w: bool
(u, v) = g(x and true, pre x) every not u
w = merge n (0 -> x when n is 0) (1 -> y when n is 1)
y = (if x then v else x) when x -> true
end
node h() -> (y: bool)
y = true
end
main f"""
PROGRAM = read_program(TEXT.replace("(if x then v else x) when x -> true", "if x then v else w"))


def links_of(program, name):
    """All links as the program tells them."""
    places = places_of(program, name)
    found = {}
    for one in places:
        for other in places:
            link = linked(program, name, one, other)
            if link is not None:
                found[one, other] = link
    return found


class PlacesTest(unittest.TestCase):
    def test_their_order(self):
        self.assertTrue(fits(PROGRAM))
        self.assertEqual(places_of(PROGRAM, "f"), (
            "x", "n", "y", "u", "v", "w",
            (0, ()), (0, (0,)), (0, (0, 0)), (0, (0, 1)), (0, (1,)), (0, (1, 0)), (0, (2,)), (0, (2, 0)),
            (1, ()), (1, (0,)), (1, (0, 0)), (1, (1,)), (1, (1, 0)),
            (2, ()), (2, (0,)), (2, (1,)), (2, (2,)),
        ))
        self.assertEqual(places_of(PROGRAM, "h"), ("y", (0, ())))
        self.assertEqual(places_of(PROGRAM, "g"), ("a", "b", "c", "d", (0, ()), (1, ())))

    def test_expressions(self):
        def at(place):
            return expression_at(PROGRAM, "f", place)

        x, u = ("var", "x"), ("var", "u")
        body = PROGRAM[1][1][4]
        for name in "xnyuvw":
            self.assertEqual(at(name), ("var", name))
        self.assertEqual(at((0, ())), body[0][1])
        self.assertEqual(at((0, (0,))), ("and", x, ("const", True, "bool")))
        self.assertEqual(at((0, (0, 1))), ("const", True, "bool"))
        self.assertEqual(at((0, (1,))), ("pre", x))
        self.assertEqual(at((0, (2,))), ("not", u))
        self.assertEqual(at((0, (2, 0))), u)
        self.assertEqual(at((1, ())), body[1][1])
        self.assertEqual(at((1, (0,))), ("when", x, "n", 0))
        self.assertEqual(at((1, (1, 0))), ("var", "y"))
        self.assertEqual(at((2, (1,))), ("var", "v"))

    def test_random_programs(self):
        for seed in range(150):
            value = Fitting(seed, loose=0.3).program(3)
            for node in value[1]:
                trees = trees_of(node)
                self.assertEqual(places_of(value, node[0]), tuple(trees))
                for place, tree in trees.items():
                    expected = ("var", place) if tree is None else tree
                    self.assertEqual(expression_at(value, node[0], place), expected)


class LinksTest(unittest.TestCase):
    def link(self, one, other, expected):
        turned = expected
        if expected is not None and expected[0] != "even":
            turned = ({"below": "above", "above": "below"}[expected[0]],) + expected[1:]
        self.assertEqual(linked(PROGRAM, "f", one, other), expected)
        self.assertEqual(linked(PROGRAM, "f", other, one), turned)

    def test_left_sides(self):
        for x, n in (("u", 0), ("v", 0), ("w", 1), ("y", 2)):
            self.link(x, (n, ()), ("even",))
        for x, n in (("w", 0), ("u", 1), ("v", 2), ("x", 2), ("y", 1), ("x", 0)):
            self.link(x, (n, ()), None)

    def test_variables(self):
        self.link("x", (0, (0, 0)), ("even",))
        self.link("x", (0, (1, 0)), ("even",))
        self.link("u", (0, (2, 0)), ("even",))
        self.link("v", (2, (1,)), ("even",))
        for x in "nyuvw":
            self.link(x, (0, (0, 0)), None)
        for other in "nyuvw":
            self.link("x", other, None)

    def test_no_place_is_linked_with_itself(self):
        for place in places_of(PROGRAM, "f"):
            self.link(place, place, None)

    def test_calls(self):
        for k in range(3):
            self.link((0, ()), (0, (k,)), ("even",))
        self.link((0, (0,)), (0, (1,)), None)
        self.link((0, ()), (0, (0, 0)), None)
        self.link((0, ()), (1, ()), None)

    def test_merge(self):
        self.link((1, ()), (1, (0,)), ("below", "n", 0))
        self.link((1, ()), (1, (1,)), ("below", "n", 1))
        self.link((1, ()), "n", ("even",))
        self.link((1, (0,)), (1, (1,)), None)

    def test_when(self):
        self.link((1, (0, 0)), (1, (0,)), ("below", "n", 0))
        self.link((1, (1, 0)), (1, (1,)), ("below", "n", 1))
        self.link((1, (0, 0)), "n", ("even",))
        self.link((1, (1, 0)), "n", ("even",))
        self.link((1, (0,)), "n", None)

    def test_other_trees(self):
        for k in range(3):
            self.link((2, ()), (2, (k,)), ("even",))
        self.link((0, (0,)), (0, (0, 0)), ("even",))
        self.link((0, (0,)), (0, (0, 1)), ("even",))
        self.link((0, (1,)), (0, (1, 0)), ("even",))

    def test_all_at_once(self):
        self.assertEqual(links_of(PROGRAM, "f"), all_links(PROGRAM[1][1]))

    def test_a_variable_of_its_own(self):
        value = read_program("node f(x: bool) -> (y: bool)\nvar a: bool, b: bool\na = a\n"
                             "b = b when b\ny = merge y (false -> y) (true -> x)\nend\nmain f")
        self.assertEqual(links_of(value, "f"), all_links(value[1][0]))
        self.assertEqual(linked(value, "f", "b", (1, ())), ("even",))
        self.assertEqual(linked(value, "f", (1, ()), (1, (0,))), ("above", "b", True))

    def test_random_programs(self):
        for seed in range(120):
            value = Fitting(seed, loose=0.4).program(2)
            for node in value[1]:
                self.assertEqual(links_of(value, node[0]), all_links(node))
