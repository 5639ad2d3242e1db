"""[0.4]: what takes any value answers True or False, and raises nothing, however a good value is spoilt."""

import unittest

from everytick.meaning import beginning, instant, is_row, is_state
from everytick.program_texts import read_program
from everytick.programs import is_expression, is_great, is_kind, is_label, is_program, is_small, is_value
from everytick.schedules import first_schedule, is_schedule
from everytick.steps import is_step_machine
from tests import machine_oracle
from tests.samples import ODD_VALUES, SORTS, nested_value, paths, replaced, value_at

TEXT = """sort E = A | B
node g(x: mod 3, e: E) -> (y: mod 3, b: bool)
y = x + (0:3 fby (1:3 -> pre y)) * 2:3
b = merge e (A -> (x <> y) when e is A) (B -> not true)
end
node f(x: mod 3) -> (y: mod 3, b: bool)
var e: E, k: bool
states
state S
unless x = 1:3 then T
e = A
until x < 2:3 or pre k continue S
state T
e = if k then A else B
end
(y, b) = g(x - 1:3, e) every k
k = false fby x <= y
end
main f"""
PROGRAM = read_program(TEXT)
WORDS = ("const", "var", "not", "and", "if", "add", "sub", "mul", "eq", "pre", "arrow", "fby", "when", "merge", "call",
         "states", "select", "cell", "set", "store", "case", "mod", "sort", "bool")


def cut_short(value):
    """Tuples with fewer or more items than a tuple, and the words of trees alone."""
    for many in range(len(value)):
        yield value[:many]
    yield value[1:]
    yield value + (0,)
    yield value + value
    yield list(value)


def is_any_value(value):
    """Whether a value is made of what [0.4] says; the others need not be answered, but most functions do so."""
    if isinstance(value, tuple):
        return all(is_any_value(part) for part in value)
    return value is None or isinstance(value, (bool, int, str))


def spoilt(value):
    """A value with each part of it exchanged for each of many others, one after another."""
    for path in paths(value):
        part = value_at(value, path)
        others = list(ODD_VALUES) + [nested_value(90 - len(path)), 10 ** 5000]
        if isinstance(part, tuple):
            others += list(cut_short(part))
        for other in others:
            yield replaced(value, path, other)


def spoilt_plainly(value):
    """Those of the spoilt values that are any values in the words of [0.4]."""
    return [other for other in spoilt(value) if is_any_value(other)]


class AnyValueTest(unittest.TestCase):
    def answers(self, function, value, oracle=None):
        for other in spoilt(value):
            told = function(other)
            self.assertIs(type(told), bool)
            if oracle is not None:
                self.assertEqual(told, oracle(other), other)

    def test_programs(self):
        self.assertTrue(is_program(PROGRAM))
        self.answers(is_program, PROGRAM)

    def test_expressions(self):
        for equation in PROGRAM[1][0][4]:
            self.assertTrue(is_expression(PROGRAM[0], equation[1]))
            self.answers(lambda value: is_expression(PROGRAM[0], value), equation[1])

    def test_words_alone_and_cut_short(self):
        leaf = ("const", 1, ("mod", 2))
        for word in WORDS:
            for value in ((word,), (word, 3), (word, leaf), (word, 3, leaf), (word, leaf, leaf), (word, "x", ((1, leaf),)),
                          ("not", (word,)), ("if", leaf, (word, leaf), leaf), (word, (word,)), (word, None, leaf, leaf)):
                self.assertIs(type(is_expression(SORTS, value)), bool)
                self.assertIs(type(is_program(((), (("f", (), (("y", "bool"),), (), ((("y",), value),)),), "f"))), bool)
                machine = (("m", (), ("y",), (1,), (), (("set", "y", value), ("store", 0, value))),)
                self.assertIs(is_step_machine(machine), machine_oracle.is_machine(machine), machine)
                for statement in (value, ("case", "x", ((1, (value,)),)), ("case", "x", (value,))):
                    machine = (("m", (), ("y",), (1,), (), (statement,)),)
                    self.assertIs(is_step_machine(machine), machine_oracle.is_machine(machine), machine)

    def test_step_machines(self):
        tree = ("select", "x", ((True, ("add", 3, ("cell", 0), ("var", "x"))), (1, ("not", ("const", "A")))))
        inner = ("in", ("a", "b"), ("o",), (1, "A"), (), (("set", "o", tree), ("store", 1, ("mul", 2, tree, ("const", 1)))))
        body = (("call", ("x",), 0, (tree, ("sub", 32, tree, tree)), ("eq", tree, tree)),
                ("case", "x", ((0, (("call", ("y",), 1, (tree, tree), None),)), (False, ()))))
        machine = (inner, ("main", (), ("x", "y"), (True,), (0, 0), body))
        self.assertTrue(is_step_machine(machine))
        self.answers(is_step_machine, machine, machine_oracle.is_machine)

    def test_names_kinds_and_values(self):
        for function in (is_small, is_great, is_label, lambda value: is_kind(SORTS, value)):
            for value in ("x", ("mod", 3), ("sort", "Color"), (("sort",),)):
                self.answers(function, value)
        for kind in ("bool", ("mod", 3), ("sort", "Color")):
            self.answers(lambda value: is_value(SORTS, kind, value), ("mod", 3))

    def test_rows_states_and_schedules(self):
        program = (PROGRAM[0], PROGRAM[1][:1], "g")
        _, state = instant(program, beginning(program), (2, "A"))
        self.assertTrue(is_row(program, (2, "A")) and is_state(program, state))
        self.answers(lambda value: is_row(program, value), (2, "A"))
        self.answers(lambda value: is_state(program, value), state)
        self.answers(lambda value: is_schedule(program, "g", value), first_schedule(program, "g"))


if __name__ == "__main__":
    unittest.main()
