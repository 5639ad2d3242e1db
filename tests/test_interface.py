"""The interface of DOC.md: names, arguments, where they are defined, and what they leave alone."""

import ast
import copy
import importlib
import inspect
import os
import unittest

import everytick
from everytick.causality import BadRing, at_once, first_ring, needs, ring_of
from everytick.checker import check
from everytick.claims import observed, verdict
from everytick.clocks import BadClock, clash_of, clocks_of, place_clocks
from everytick.direct import active_states, run_direct
from everytick.equality import compared, same_programs
from everytick.errors import TickError
from everytick.induction import MAX_ALL, all_states
from everytick.joining import dropped, joined
from everytick.kinds import fault_of, fits, interface_of, kind_of, kinds_in
from everytick.least import classes, least_machine
from everytick.machines import MAX_ROWS, first_fault, input_rows, is_machine, machine_of, run_machine
from everytick.making import finished, made
from everytick.meaning import beginning, instant, run, trace
from everytick.normal import cell_count, normalized
from everytick.places import expression_at, linked, places_of
from everytick.printing import print_expression, print_program
from everytick.program_texts import read_program
from everytick.programs import is_program, node_named, parts_of, variables_in
from everytick.reading import read_expression
from everytick.reaching import reaches
from everytick.rows import read_row, read_rows
from everytick.schedules import first_schedule, rounds, swaps
from everytick.sessions import Session
from everytick.sharing import alike, shared
from everytick.states import translated
from everytick.steps import first_memory, is_step_machine, run_steps, size_of, step
from everytick.uses import equations_of, needed, renamed, uses, without_unused
from tests.fitting import Fitting
from tests.righting import Righting

INTERFACE = {
    "errors": ("TickError", "BadText", "NotAllowed", "TooMany"),
    "programs": ("is_small(value)", "is_great(value)", "is_kind(sorts, value)", "is_program(value)",
                 "is_expression(sorts, value)", "values_of(sorts, kind)", "is_value(sorts, kind, value)",
                 "node_named(program, name)", "parts_of(expression)", "variables_in(expression)"),
    "printing": ("print_kind(kind)", "print_expression(expression)", "print_program(program)"),
    "reading": ("read_expression(sorts, text)",),
    "program_texts": ("read_program(text)",),
    "kinds": ("kind_of(program, kinds, expression)", "kinds_in(node)", "fault_of(program)", "fits(program)",
              "interface_of(program, name)"),
    "uses": ("equations_of(node)", "uses(node)", "needed(program)", "without_unused(program)",
             "renamed(program, names)"),
    "places": ("places_of(program, name)", "expression_at(program, name, place)", "linked(program, name, one, other)"),
    "clocks": ("BadClock", "place_clocks(program, name)", "clocks_of(program, name)", "clash_of(program)"),
    "meaning": ("beginning(program)", "is_row(program, value)", "is_state(program, value)",
                "instant(program, state, row)", "run(program, rows)", "trace(program, rows)"),
    "causality": ("BadRing", "at_once(right)", "needs(program, name)", "first_ring(program, name)", "ring_of(program)",
                  "is_causal(program)", "is_right(program)"),
    "schedules": ("is_schedule(program, name, value)", "first_schedule(program, name)", "rounds(program, name)",
                  "swaps(one, other)"),
    "reaching": ("reaches(program, name)",),
    "states": ("has_blocks(program)", "are_blocks(program)", "translated(program)"),
    "direct": ("run_direct(program, rows)", "active_states(program, rows)"),
    "normal": ("is_plain(expression)", "is_normal(program)", "normalized(program)", "cell_count(program)"),
    "sharing": ("alike(program, name)", "shared(program)"),
    "steps": ("is_step_machine(value)", "first_memory(machine)", "step(machine, memory, row)",
              "run_steps(machine, rows)", "size_of(machine)"),
    "making": ("made(program)", "finished(program)"),
    "joining": ("joined(machine, kinds)", "dropped(machine)"),
    "machines": ("input_rows(program)", "machine_of(program, limit)", "is_machine(value)",
                 "run_machine(machine, indexes)", "first_fault(machine)"),
    "least": ("classes(machine)", "least_machine(machine)"),
    "equality": ("compared(one, other)", "same_programs(one, other, limit)"),
    "claims": ("is_claim(program, value)", "observed(program, claim)", "verdict(program, claim, limit)",
               "is_closed(program, claim, value)", "is_break(program, claim, value)"),
    "induction": ("all_states(program)", "is_inductive(program, claim, k)", "least_induction(program, claim, bound)"),
    "checker": ("is_sound(statement)", "check(statement, certificate)"),
    "rows": ("print_value(value)", "print_row(row)", "print_rows(rows)", "read_row(sorts, kinds, text)",
             "read_rows(sorts, kinds, text)"),
    "sessions": ("state_of(program)", "Session(program)"),
}

METHODS = {"Session": ("enter(self, line)", "current(self)", "plain(self)", "journal(self)")}


class InterfaceTest(unittest.TestCase):
    def test_names_and_arguments(self):
        for file, names in INTERFACE.items():
            module = importlib.import_module(f"everytick.{file}")
            for text in names:
                name = text.split("(")[0]
                self.assertTrue(hasattr(module, name), (file, name))
                if "(" in text:
                    self.assertEqual(name + str(inspect.signature(getattr(module, name))), text)

    def test_each_is_defined_in_its_file(self):
        folder = os.path.dirname(os.path.abspath(everytick.__file__))
        for file, names in INTERFACE.items():
            with open(os.path.join(folder, file + ".py"), encoding="utf-8") as source:
                tree = ast.parse(source.read())
            defined = [row.name for row in tree.body if isinstance(row, (ast.FunctionDef, ast.ClassDef))]
            for text in names:
                self.assertIn(text.split("(")[0], defined)

    def test_methods(self):
        for name, texts in METHODS.items():
            found = vars(getattr(importlib.import_module("everytick.sessions"), name))
            for text in texts:
                method = text.split("(")[0]
                self.assertIn(method, found)
                self.assertEqual(method + str(inspect.signature(found[method])), text)

    def test_constants(self):
        self.assertEqual((MAX_ALL, MAX_ROWS), (4096, 256))

    def test_the_checker_does_not_use_what_it_checks(self):
        """Part 11: it uses the parts 1 to 5, and the steps of machines, but nothing that looks for certificates."""
        found, rest = set(), ["checker"]
        while rest:
            file = rest.pop()
            with open(os.path.join(os.path.dirname(os.path.abspath(everytick.__file__)), file + ".py"), encoding="utf-8") as source:
                tree = ast.parse(source.read())
            modules = [row.module for row in tree.body if isinstance(row, ast.ImportFrom)]
            names = {module.split(".")[1] for module in modules if module.startswith("everytick.")}
            rest += sorted(names - found)
            found |= names
        self.assertFalse(found & {"states", "translation", "direct", "normal", "sharing", "making", "joining", "reads", "machines", "least",
                                  "equality", "claims", "induction", "walks", "sessions", "questions", "edits"})

    def test_errors(self):
        for name in INTERFACE["errors"]:
            self.assertTrue(issubclass(getattr(importlib.import_module("everytick.errors"), name), TickError))
        self.assertTrue(issubclass(BadClock, TickError))
        self.assertTrue(issubclass(BadRing, TickError))


class ArgumentsTest(unittest.TestCase):
    """[0.4]: no function modifies its arguments, and none hands out a list or dict that it keeps."""

    def test_dicts_stay(self):
        value = Fitting(3).program(2)
        names = {"x0": "q", "other": "r"}
        kinds = kinds_in(value[1][0])
        before = (copy.deepcopy(names), copy.deepcopy(kinds))
        renamed(value, names)
        for _, right in equations_of(value[1][0]):
            if right[0] != "call":
                kind_of(value, kinds, right)
        self.assertEqual((names, kinds), before)

    def test_results_are_new(self):
        value = Fitting(4).program(3)
        node = value[1][-1]
        name = node[0]
        for make in (lambda: equations_of(node), lambda: uses(node), lambda: needed(value), lambda: kinds_in(node),
                     lambda: place_clocks(value, name), lambda: variables_in(("and", ("var", "a"), ("var", "b")))):
            first = make()
            kept = copy.deepcopy(first)
            first.clear()
            self.assertEqual(make(), kept)

    def test_results_are_tuples_where_the_document_says_so(self):
        value = Fitting(4).program(3)
        name = value[1][-1][0]
        self.assertTrue(is_program(value) and is_program(without_unused(value)) and is_program(renamed(value, {})))
        self.assertTrue(is_program(read_program(print_program(value))))
        for found in (interface_of(value, name), places_of(value, name), clocks_of(value, name),
                      parts_of(("not", ("var", "x"))), node_named(value, name), read_expression((), "x")):
            self.assertIsInstance(found, tuple)
        self.assertIs(fits(value), True)
        self.assertIsNone(fault_of(value))
        self.assertIsNone(clash_of(value))
        place = places_of(value, name)[-1]
        self.assertIsInstance(expression_at(value, name, place), tuple)
        self.assertIsNone(linked(value, name, place, place))
        self.assertIsInstance(print_expression(("var", "x")), str)

    def test_right_programs_give_tuples(self):
        value = Righting(4, nil=0).program(3)
        rows = Righting(4).rows(value, 3)
        name = value[1][-1][0]
        order = first_schedule(value, name)
        found = [beginning(value), instant(value, beginning(value), rows[0]), run(value, rows), trace(value, rows),
                 needs(value, name), at_once(("var", "x")), order, rounds(value, name), swaps(order, order),
                 reaches(value, name), translated(Righting(4, blocks=1.0).program(2)), normalized(value),
                 shared(value), alike(value, name), run_direct(value, rows), active_states(value, rows)]
        for row in found:
            self.assert_of_tuples(row)
        self.assertIsNone(first_ring(value, name))
        self.assertIsNone(ring_of(value))
        self.assertIs(type(cell_count(value)), int)

    def test_step_machines_give_tuples(self):
        machine = (("m", ("x",), ("y",), (1,), (), (("set", "y", ("cell", 0)), ("store", 0, ("var", "x")))),)
        memory = first_memory(machine)
        for row in (memory, step(machine, memory, (2,)), run_steps(machine, ((2,), (3,)))):
            self.assert_of_tuples(row)
        self.assertIs(is_step_machine(machine), True)
        self.assertIs(type(size_of(machine)), int)

    def test_machines_give_tuples(self):
        value = read_program("node f(x: bool) -> (y: bool)\nvar z: bool\ny = false fby x\nz = pre x\nend\nmain f")
        kinds = {"f": {x: (False, True) for x in ("x", "y", "z", "t0", "t1")}}
        before = copy.deepcopy(kinds)
        machine = machine_of(value, 10)
        found = [made(normalized(value)), finished(value), joined(made(normalized(value)), kinds), dropped(made(normalized(value))),
                 input_rows(value), machine, run_machine(machine, (0, 1)), classes(machine), least_machine(machine),
                 compared(machine, machine), same_programs(value, value, 10)]
        for row in found:
            self.assert_of_tuples(row)
        self.assertEqual(kinds, before)
        self.assertIsNone(first_fault(machine))
        self.assertIs(is_machine(machine), True)

    def test_claims_and_rows_give_tuples(self):
        late = read_program("node late(x: bool) -> (y: bool)\ny = false fby x\nend\nmain late")
        never = ("never", (("x", "bool"), ("y", "bool")), (("ok", "bool"),), (), ((("ok",), ("not", ("var", "y"))),))
        for row in (observed(late, never), verdict(late, never, 10), read_row((), ("bool",), "true"), read_rows((), ("bool",), "true ; true")):
            self.assert_of_tuples(row)
        first = all_states(late)
        kept = copy.deepcopy(first)
        first.clear()
        self.assertEqual(all_states(late), kept)
        session = Session(late)
        self.assert_of_tuples(session.current())
        self.assert_of_tuples(session.plain())
        self.assertIsInstance(session.journal(), list)
        self.assertIsInstance(session.enter("text"), list)

    def assert_of_tuples(self, value):
        self.assertIn(type(value), (tuple, str, int, bool, type(None)))
        for part in value if isinstance(value, tuple) else ():
            self.assert_of_tuples(part)


class ExamplesTest(unittest.TestCase):
    """The examples that stand in the interface."""

    def test_expressions(self):
        self.assertEqual(
            repr(read_expression((), "false -> pre x and not (y or x)")),
            "('arrow', ('const', False, 'bool'), ('and', ('pre', ('var', 'x')), ('not', ('or', ('var', 'y'), "
            "('var', 'x')))))")
        self.assertEqual(print_expression(("when", ("add", ("const", 0, ("mod", 8)), ("var", "n")), "c", True)),
                         "(0:8 + n) when c")

    def test_clocks(self):
        read = read_program(
            "node half(c: bool, x: bool) -> (y: bool)\nvar a: bool, b: bool\na = x when c\nb = a or true\n"
            "y = merge c (false -> false) (true -> b)\nend\nmain half")
        self.assertEqual(
            repr(clocks_of(read, "half")),
            "(('c', ()), ('x', ()), ('y', ()), ('a', (('c', True),)), ('b', (('c', True),)))")
        read = read_program("node bad(c: bool, x: bool) -> (y: bool)\ny = x when c\nend\nmain bad")
        self.assertEqual(clash_of(read), ("bad", ("y", (0, ()), (0, (0,)))))

    def test_meaning(self):
        text = "node count(tick: bool) -> (n: mod 4)\nn = (0:4 fby n) + (if tick then 1:4 else 0:4)\nend\nmain count"
        self.assertEqual(repr(run(read_program(text), ((True,), (False,), (True,)))), "(((1,), (1,), (2,)), None)")

    def test_causality(self):
        read = read_program("node f(x: bool) -> (y: bool)\nvar a: bool, b: bool\na = b and x\nb = a or y\ny = false fby a\n"
                            "end\nmain f")
        self.assertEqual(repr(needs(read, "f")), "(('y', ()), ('a', ('b', 'x')), ('b', ('a', 'y')))")
        self.assertEqual(repr(first_ring(read, "f")), "('a', 'b')")

    def test_the_normal_form(self):
        read = read_program("node f(x: mod 8) -> (y: mod 8)\ny = (0:8 fby x + y) - (1:8 -> x)\nend\nmain f")
        self.assertEqual(print_program(normalized(read)).split("\n")[1:6], [
            "var t0: mod 8, t1: mod 8, t2: bool", "t0 = x + y", "t1 = pre t0", "t2 = true fby false",
            "y = (if t2 then 0:8 else t1) - (if t2 then 1:8 else x)"])

    def test_finished_machines(self):
        late = finished(read_program("node late(x: bool) -> (y: bool)\ny = false fby x\nend\nmain late"))
        self.assertEqual(repr((size_of(late), run_steps(late, ((True,), (False,))))), "(2, ((False,), (True,)))")

    def test_machines(self):
        text = "node late(x: bool) -> (y: bool)\ny = false fby x\nend\nmain late"
        self.assertEqual(
            repr(machine_of(read_program(text), 10)),
            "(((False,), (True,)), ((((False,), 1), ((False,), 2)), (((False,), 1), ((False,), 2)), (((True,), 1), ((True,), 2))))")

    def test_claims(self):
        late = read_program("node late(x: bool) -> (y: bool)\ny = false fby x\nend\nmain late")
        never = ("never", (("x", "bool"), ("y", "bool")), (("ok", "bool"),), (), ((("ok",), ("not", ("var", "y"))),))
        self.assertEqual(repr(verdict(late, never, 10)), "('broken', ((True,), (False,)))")

    def test_the_checker(self):
        late = read_program("node late(x: bool) -> (y: bool)\ny = false fby x\nend\nmain late")
        self.assertEqual((check(("order", late, "late"), (0,)), check(("ring", late, "late"), ("y",))), (True, False))

    def test_sessions(self):
        session = Session(read_program("node late(x: bool) -> (y: bool)\ny = false fby x\nend\nmain late"))
        self.assertEqual(session.enter("run true ; false ; false"), ["false", "true", "false"])
        self.assertEqual(session.enter("put node never(x: bool) -> (y: bool);y = y and x;end"), ["ring never y"])
