"""[12.2]: values, rows and rows of rows as texts."""

import unittest

from everytick.errors import BadText
from everytick.rows import print_row, print_rows, print_value, read_row, read_rows
from tests.righting import KINDS, Righting
from tests.samples import SORTS, same

T, F = True, False
COLOR = ("sort", "Color")
MOD = ("mod", 12)


class PrintTest(unittest.TestCase):
    def test_values(self):
        for value, text in ((T, "true"), (F, "false"), (0, "0"), (1, "1"), (10, "10"), (31, "31"), ("Red", "Red"), ("True", "True")):
            self.assertEqual(print_value(value), text)

    def test_rows(self):
        self.assertEqual(print_row(()), "-")
        self.assertEqual(print_row((T,)), "true")
        self.assertEqual(print_row((T, 0, "Green", F, 1)), "true 0 Green false 1")

    def test_rows_of_rows(self):
        self.assertEqual(print_rows(()), "")
        self.assertEqual(print_rows(((),)), "-")
        self.assertEqual(print_rows(((), (), ())), "- ; - ; -")
        self.assertEqual(print_rows(((T,),)), "true")
        self.assertEqual(print_rows(((T, 3), (F, 0))), "true 3 ; false 0")


class ReadTest(unittest.TestCase):
    def row(self, kinds, text, told):
        found = read_row(SORTS, kinds, text)
        self.assertTrue(same(found, told), found)
        self.assertEqual(print_row(found), text)

    def bad_row(self, kinds, *texts):
        for text in texts:
            with self.assertRaises(BadText) as caught:
                read_row(SORTS, kinds, text)
            self.assertEqual(caught.exception.line, 1)

    def bad_rows(self, kinds, *texts):
        for text in texts:
            with self.assertRaises(BadText) as caught:
                read_rows(SORTS, kinds, text)
            self.assertEqual(caught.exception.line, 1)

    def test_rows_of_all_kinds(self):
        self.row((), "-", ())
        self.row(("bool",), "true", (T,))
        self.row(("bool", "bool"), "false true", (F, T))
        self.row((MOD, MOD), "0 11", (0, 11))
        self.row((COLOR, ("sort", "Red"), ("mod", 2)), "Red On 1", ("Red", "On", 1))
        self.row((("mod", 32),), "31", (31,))

    def test_other_kinds(self):
        self.bad_row(("bool",), "0", "1", "True", "TRUE", "Red", "tru", "truee")
        self.bad_row((MOD,), "true", "Red", "12", "-1", "+1", "1:12", "a", "0x1", "100000000000000000000")
        self.bad_row((COLOR,), "On", "red", "Color", "0", "true", "Red1")

    def test_digits(self):
        self.bad_row((MOD,), "00", "01", "011", "1_0", "1.0", " 1", "1 ")

    def test_too_many_and_too_few(self):
        self.bad_row(("bool", MOD), "true", "true 1 1", "1 true", "true 1 true", "", "-")
        self.bad_row((), "", "true", "- -", " -", "- ", "--")
        self.bad_row(("bool",), "", "-", "true true", "true -", "- true")

    def test_spaces(self):
        self.bad_row(("bool", MOD), "true  1", " true 1", "true 1 ", "true1", "true\t1", "true,1", "true;1", "true ; 1")

    def test_rows_of_rows(self):
        for kinds, text, told in ((("bool",), "", ()), (("bool",), "true", ((T,),)), (("bool", MOD), "true 3 ; false 0", ((T, 3), (F, 0))),
                                  ((), "", ()), ((), "-", ((),)), ((), "- ; -", ((), ())), ((COLOR,), "Red ; Blue ; Red", (("Red",), ("Blue",), ("Red",)))):
            found = read_rows(SORTS, kinds, text)
            self.assertTrue(same(found, told), found)
            self.assertEqual(print_rows(found), text)

    def test_bad_rows_of_rows(self):
        self.bad_rows(("bool",), "true;false", "true; false", "true ;false", "true  ; false", "true ;  false", "true ; ", " ; true", ";", " ; ",
                      "true ; ; true", "true ; false ;", " true", "true ", "-", "true ; -", "true ; 1", "true ; false true")
        self.bad_rows((), "true", "- ;-", "-;-", "- ; - ; ", " ", "- -", "- ; true")
        self.bad_rows(("bool", "bool"), "true ; false", "true false ; true")

    def test_random_rows(self):
        for seed in range(100):
            program = Righting(seed).program()
            kinds = tuple(kind for _, kind in program[1][0][1])
            self.assertTrue(set(kinds) <= set(KINDS))
            rows = Righting(seed).rows(program, seed % 5)
            self.assertTrue(same(read_rows(program[0], kinds, print_rows(rows)), rows))
            for row in rows:
                self.assertTrue(same(read_row(program[0], kinds, print_row(row)), row))


if __name__ == "__main__":
    unittest.main()
