"""[1.3] and [0.4]: kinds and their values."""

import unittest

from everytick.programs import is_kind, is_value, values_of
from tests.samples import ODD_VALUES, SORTS, nested_value, same

COLOR = ("sort", "Color")


class KindsTest(unittest.TestCase):
    def test_kinds(self):
        for kind in ("bool", ("mod", 2), ("mod", 8), ("mod", 32), COLOR, ("sort", "Red")):
            self.assertIs(is_kind(SORTS, kind), True, kind)

    def test_every_modulus(self):
        for n in range(-3, 40):
            self.assertIs(is_kind((), ("mod", n)), 2 <= n <= 32, n)

    def test_sorts_are_those_of_the_program(self):
        for name in ("Green", "On", "color", "", "Blue", "X"):
            self.assertIs(is_kind(SORTS, ("sort", name)), False, name)
        self.assertIs(is_kind((), COLOR), False)

    def test_wrong_values(self):
        for value in ODD_VALUES:
            if value not in ("bool", ("mod", 8)):
                self.assertIs(is_kind(SORTS, value), False, repr(value))
        wrong = (
            ("mod",), ("mod", 8, 8), ("mod", True), ("mod", False), ("mod", "8"), ("mod", None), ("mod", (8,)),
            ("mod", [8]), ["mod", 8], ("bool",), ("bool", 2), ("sort",), ("sort", "Color", "Color"), ("sort", 1),
            ("sort", None), ("sort", ["Color"]), ("sort", ("Color",)), ("Sort", "Color"), ("mod", 8.0), "Color", "mod",
            "Bool", "sort", (8, "mod"), {"mod": 8}, ("sort", {}), (("mod", 8),), ("mods", 8),
        )
        for value in wrong:
            self.assertIs(is_kind(SORTS, value), False, repr(value))
        self.assertIs(is_kind(SORTS, nested_value(100)), False)
        self.assertIs(is_kind(SORTS, ("sort", nested_value(99))), False)


class ValuesTest(unittest.TestCase):
    def test_their_order(self):
        self.assertTrue(same(values_of((), "bool"), (False, True)))
        self.assertTrue(same(values_of((), ("mod", 2)), (0, 1)))
        self.assertTrue(same(values_of((), ("mod", 5)), (0, 1, 2, 3, 4)))
        self.assertTrue(same(values_of(SORTS, COLOR), ("Red", "Green", "Blue")))
        self.assertTrue(same(values_of(SORTS, ("sort", "Red")), ("On", "Off")))
        for n in range(2, 33):
            self.assertTrue(same(values_of((), ("mod", n)), tuple(range(n))))

    def test_is_value(self):
        for kind in ("bool", ("mod", 2), ("mod", 8), ("mod", 32), COLOR, ("sort", "Red")):
            for value in values_of(SORTS, kind):
                self.assertIs(is_value(SORTS, kind, value), True, (kind, value))

    def test_true_is_not_one(self):
        for value in (0, 1, None, "true", "True", (), (True,), [True]):
            self.assertIs(is_value(SORTS, "bool", value), False, repr(value))
        for value in (True, False, -1, 8, 9, "1", None, (1,), [1], {1: 1}, 1.0):
            self.assertIs(is_value(SORTS, ("mod", 8), value), False, repr(value))
        self.assertIs(is_value(SORTS, ("mod", 2), True), False)
        self.assertIs(is_value(SORTS, ("mod", 2), False), False)
        self.assertIs(is_value(SORTS, ("mod", 2), 2), False)

    def test_constructors_are_those_of_the_sort(self):
        for value in ("On", "Off", "Color", "red", "", None, 0, True, ("Red",), ["Red"], {"Red": 1}):
            self.assertIs(is_value(SORTS, COLOR, value), False, repr(value))
        self.assertIs(is_value(SORTS, ("sort", "Red"), "Red"), False)

    def test_deep_values(self):
        for kind in ("bool", ("mod", 8), COLOR):
            self.assertIs(is_value(SORTS, kind, nested_value(100)), False)
