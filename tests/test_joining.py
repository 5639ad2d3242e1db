"""[8.7], [8.8]: joining and dropping."""

import unittest

from everytick.joining import dropped, joined
from everytick.steps import is_step_machine, run_steps
from tests import making_oracle as oracle
from tests.machine_oracle import VALUES, Machines

T, F = True, False
VALUES_OF = {"x": (F, T), "n": (0, 1, 2, 3), "e": ("B", "A", "C")}


def put(x, value=1):
    return ("set", x, ("const", value))


def case(x, *branches):
    return ("case", x, branches)


class JoinedTest(unittest.TestCase):
    """[8.7]"""

    def joined(self, *body):
        machine = (("m", ("x", "n", "e"), ("y",), (0, 0), (), body),)
        assert is_step_machine(machine)
        found = joined(machine, {"m": VALUES_OF})
        self.assertTrue(is_step_machine(found))
        self.assertEqual(found[0][:5], machine[0][:5])
        self.assertEqual(joined(found, {"m": VALUES_OF}), found)
        return found[0][5]

    def equal(self, one, *other):
        self.assertEqual(repr(one), repr(other))

    def test_same_value(self):
        self.equal(self.joined(case("x", (T, (put("a"),))), case("x", (T, (put("b"),)))), case("x", (T, (put("a"), put("b")))))

    def test_other_values(self):
        self.equal(self.joined(case("x", (T, (put("a"),))), case("x", (F, (put("b"),)))),
                   case("x", (F, (put("b"),)), (T, (put("a"),))))
        self.equal(self.joined(case("e", ("C", (put("a"),))), case("e", ("A", (put("b"),))), case("e", ("B", (put("c"),)))),
                   case("e", ("B", (put("c"),)), ("A", (put("b"),)), ("C", (put("a"),))))
        self.equal(self.joined(case("n", (3, (put("a"),)), (1, ())), case("n", (2, ()), (3, (put("b"),)), (0, (put("c"),)))),
                   case("n", (0, (put("c"),)), (1, ()), (2, ()), (3, (put("a"), put("b")))))

    def test_only_neighbours(self):
        one, other = case("x", (T, (put("a"),))), case("x", (T, (put("b"),)))
        self.equal(self.joined(one, put("c"), other), one, put("c"), other)
        self.equal(self.joined(one, ("store", 0, ("var", "x")), other), one, ("store", 0, ("var", "x")), other)
        between = case("n", (1, (put("c"),)))
        self.equal(self.joined(one, between, other), one, between, other)

    def test_many_neighbours(self):
        body = self.joined(*[case("n", (k % 4, (put("y", k),))) for k in range(10)])
        self.equal(body, case("n", *[(v, tuple(put("y", k) for k in range(10) if k % 4 == v)) for v in range(4)]))

    def test_a_single_case_keeps_its_order(self):
        self.equal(self.joined(case("x", (T, (put("a"),)), (F, (put("b"),)))), case("x", (T, (put("a"),)), (F, (put("b"),))))

    def test_empty_cases_go(self):
        self.equal(self.joined(case("x"), put("y"), case("x", (T, ())), case("n", (1, ()), (0, ()))), put("y"))
        self.equal(self.joined(case("x", (T, (case("n", (1, (case("e"),)), (2, ())),)), (F, ()))))
        self.equal(self.joined(case("x", (T, (put("a"),)), (F, ()))), case("x", (T, (put("a"),)), (F, ())))

    def test_behind_an_empty_case_that_goes_there_are_neighbours(self):
        one, other = case("x", (T, (put("a"),))), case("x", (T, (put("b"),)))
        self.equal(self.joined(one, case("n", (0, ())), other), case("x", (T, (put("a"), put("b")))))

    def test_at_any_depth(self):
        def deep(statement):
            return case("x", (T, (case("n", (2, (case("e", ("A", (statement,))),))),)))
        self.equal(self.joined(deep(put("a")), deep(put("b"))),
                   case("x", (T, (case("n", (2, (case("e", ("A", (put("a"), put("b")))),))),))))
        body = self.joined(case("x", (F, (case("n", (2, (put("a"),))), case("n", (0, (put("b"),)))))))
        self.equal(body, case("x", (F, (case("n", (0, (put("b"),)), (2, (put("a"),))),))))

    def test_only_the_seam_of_two_bodies_joins(self):
        one = case("x", (T, (case("n", (1, (put("a"),))), put("b"))))
        other = case("x", (T, (case("n", (1, (put("c"),))),)))
        self.equal(self.joined(one, other), case("x", (T, (case("n", (1, (put("a"),))), put("b"), case("n", (1, (put("c"),)))))))
        one = case("x", (T, (put("b"), case("n", (1, (put("a"),))))))
        self.equal(self.joined(one, other), case("x", (T, (put("b"), case("n", (1, (put("a"), put("c"))))))))

    def test_true_and_1(self):
        orders = {"m": {"x": (0, F, 1, T)}}
        machine = (("m", (), (), (), (), (case("x", (T, (put("a"),))), case("x", (1, (put("b"),))), case("x", (F, (put("c"),))))),)
        self.equal(joined(machine, orders)[0][5], case("x", (F, (put("c"),)), (1, (put("b"),)), (T, (put("a"),))))

    def test_each_class_by_its_own_kinds(self):
        body = (case("x", (1, (put("a"),))), case("x", (0, (put("b"),))))
        machine = (("one", (), (), (), (), body), ("two", (), (), (), (), body))
        found = joined(machine, {"one": {"x": (0, 1)}, "two": {"x": (1, 0)}})
        self.assertEqual([[v for v, _ in row[5][0][2]] for row in found], [[0, 1], [1, 0]])

    def test_random_machines(self):
        for seed in range(250):
            machine = Machines(seed).machine()
            orders = {row[0]: {x: VALUES for x in ("x", "y", "z", "w", "A longer name")} for row in machine}
            found = joined(machine, orders)
            told = tuple(row[:5] + (oracle.joined(row[5], orders[row[0]]),) for row in machine)
            self.assertEqual(repr(found), repr(told), seed)
            self.assertTrue(is_step_machine(found))


def var(x):
    return ("var", x)


def cell(k):
    return ("cell", k)


class DroppedTest(unittest.TestCase):
    """[8.8]"""

    def dropped(self, *body, cells=(), parts=(), before=(), outputs=("y",)):
        machine = before + (("main", ("x", "n"), outputs, cells, parts, body),)
        assert is_step_machine(machine)
        found = dropped(machine)
        self.assertTrue(is_step_machine(found))
        self.assertEqual(repr(found), repr(oracle.dropped(machine)))
        self.assertEqual(dropped(found), found)
        return found

    def body(self, *body, **options):
        return self.dropped(*body, **options)[-1][5]

    def test_sets(self):
        self.assertEqual(self.body(put("y"), put("a")), (put("y"),))
        self.assertEqual(self.body(put("a"), ("set", "y", var("a"))), (put("a"), ("set", "y", var("a"))))
        self.assertEqual(self.body(put("y"), put("z"), outputs=("z", "y")), (put("y"), put("z")))
        self.assertEqual(self.body(put("y"), put("y"), put("z")), (put("y"), put("y")))

    def test_sets_that_only_those_read_that_are_taken_out(self):
        rows = (put("a"), ("set", "b", var("a")), ("set", "c", ("not", var("b"))), put("y"))
        self.assertEqual(self.body(*rows), (put("y"),))

    def test_a_variable_that_itself_reads_stays(self):
        self.assertEqual(self.body(("set", "a", ("not", var("a")))), (("set", "a", ("not", var("a"))),))

    def test_where_variables_are_read(self):
        call = ("inner", ("p",), ("q",), (), (), (("set", "q", var("p")),))
        for reading in (("set", "y", ("if", var("x"), ("add", 3, var("n"), var("a")), var("n"))),
                        ("set", "y", ("select", "a", ((T, var("x")),))),
                        ("set", "y", ("select", "x", ((T, ("eq", var("x"), var("a"))),))),
                        ("case", "a", ((T, (put("y"),)),)),
                        ("call", ("y",), 0, (var("a"),), None),
                        ("call", ("y",), 0, (var("x"),), ("not", var("a")))):
            body = self.body(put("a"), put("b"), reading, parts=(0,), before=(call,))
            self.assertEqual(body, (put("a"), reading))
        self.assertEqual(self.body(put("a"), ("store", 0, var("a")), ("set", "y", cell(0)), cells=(T,)),
                         (put("a"), ("store", 0, var("a")), ("set", "y", cell(0))))

    def test_cells(self):
        rows = (("set", "y", ("or", cell(1), cell(3))), ("store", 0, var("x")), ("store", 1, cell(3)), ("store", 2, var("x")),
                ("store", 3, var("x")))
        found = self.dropped(*rows, cells=("p", T, 5, F))
        self.assertEqual(repr(found[0][3]), repr((T, F)))
        self.assertEqual(found[0][5], (("set", "y", ("or", cell(0), cell(1))), ("store", 0, cell(1)), ("store", 1, var("x"))))

    def test_numbers_move_up_everywhere(self):
        inner = ("inner", ("p",), ("q",), (), (), (("set", "q", var("p")),))
        rows = (("call", ("a",), 0, (cell(0),), None),
                ("case", "x", ((T, (("call", ("y",), 1, (("add", 3, cell(2), cell(1)),), ("not", cell(2))),)),
                               (F, (("call", ("y",), 2, (("select", "n", ((1, cell(1)),)),), cell(1)), ("store", 2, cell(1)))))))
        found = self.dropped(*rows, cells=(7, 8, 9), parts=(0, 0, 0), before=(inner,))
        self.assertEqual(found[1][3:5], ((8, 9), (0, 0)))
        self.assertEqual(found[1][5], (
            ("case", "x", ((T, (("call", ("y",), 0, (("add", 3, cell(1), cell(0)),), ("not", cell(1))),)),
                           (F, (("call", ("y",), 1, (("select", "n", ((1, cell(0)),)),), cell(0)), ("store", 1, cell(0)))))),))

    def test_a_cell_that_only_its_store_reads_stays(self):
        found = self.dropped(("store", 0, ("not", cell(0))), cells=(T,))
        self.assertEqual(found[0][3:], ((T,), (), (("store", 0, ("not", cell(0))),)))

    def test_cells_by_way_of_what_was_taken_out(self):
        rows = (("set", "a", cell(1)), ("set", "b", cell(0)), ("set", "y", var("x")), ("store", 0, var("a")), ("store", 1, var("x")))
        self.assertEqual(self.dropped(*rows, cells=(F, F))[0][3:], ((), (), (("set", "y", var("x")),)))

    def test_a_cell_without_stores(self):
        self.assertEqual(self.dropped(put("y"), cells=(1, 2))[0][3], ())
        self.assertEqual(self.dropped(("set", "y", cell(1)), cells=(1, 2))[0][3:], ((2,), (), (("set", "y", cell(0)),)))

    def test_calls_and_parts(self):
        inner = ("inner", ("p",), ("q", "r"), (1,), (), (("set", "q", cell(0)), ("store", 0, var("p"))))
        rows = (("call", ("a", "b"), 0, (var("x"),), None), ("call", ("c", "y"), 1, (var("n"),), var("x")),
                ("call", ("d", "e"), 3, (var("x"),), None), ("set", "z", var("d")))
        found = self.dropped(*rows, parts=(0, 0, 0, 0), before=(inner,), outputs=("y", "z"))
        self.assertEqual(found[1][4:], ((0, 0), (rows[1][:2] + (0,) + rows[1][3:], rows[2][:2] + (1,) + rows[2][3:], rows[3])))

    def test_classes(self):
        leaf = ("leaf", (), ("q",), (1,), (), (put("q"),))
        gone = ("gone", (), ("q",), (), (0,), (("call", ("q",), 0, (), None),))
        far = ("far", (), ("q",), (), (), (put("q"),))
        near = ("near", (), ("q",), (), (2, 0), (("call", ("q",), 0, (), None), ("call", ("other",), 1, (), None)))
        rows = (("call", ("a",), 0, (), None), ("call", ("y",), 1, (), None))
        found = self.dropped(*rows, parts=(1, 3), before=(leaf, gone, far, near))
        self.assertEqual([row[0] for row in found], ["far", "near", "main"])
        self.assertEqual([row[4] for row in found], [(), (0,), (1,)])
        self.assertEqual(found[2][5], (("call", ("y",), 0, (), None),))

    def test_a_class_loses_cells_for_itself_alone(self):
        # What a class becomes does not depend on who calls it: its outputs stay, though nobody reads them.
        inner = ("inner", ("p",), ("q", "r"), (1, 2), (), (("set", "q", cell(0)), ("store", 0, var("p")), ("store", 1, var("p"))))
        found = self.dropped(("call", ("a", "y"), 0, (var("x"),), None), parts=(0,), before=(inner,))
        self.assertEqual(found[0], ("inner", ("p",), ("q", "r"), (1,), (), (("set", "q", cell(0)), ("store", 0, var("p")))))

    def test_cases_that_become_empty(self):
        rows = (case("x", (T, (put("a"),))), case("n", (1, (case("x", (F, (put("b"),))),)), (2, (put("c"), ("store", 0, var("x"))))), put("y"))
        self.assertEqual(self.body(*rows, cells=(1,)), (put("y"),))
        rows = (case("x", (T, (put("a"), put("y"))), (F, (put("b"),))),)
        self.assertEqual(self.body(*rows), (case("x", (T, (put("y"),)), (F, ())),))

    def test_what_only_an_emptied_case_reads(self):
        self.assertEqual(self.body(put("k"), case("k", (1, (put("a"),))), put("y")), (put("y"),))

    def test_random_machines(self):
        for seed in range(250):
            machine = Machines(seed).machine()
            found = dropped(machine)
            self.assertEqual(repr(found), repr(oracle.dropped(machine)), seed)
            self.assertTrue(is_step_machine(found))

    def test_a_machine_without_anything(self):
        self.assertEqual(dropped((("m", (), (), (), (), ()),)), (("m", (), (), (), (), ()),))
        self.assertEqual(run_steps(dropped((("m", (), ("y",), (), (), (put("a"),)),)), ((), ())), ((None,), (None,)))


if __name__ == "__main__":
    unittest.main()
