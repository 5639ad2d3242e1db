"""[12.1], [12.3] to [12.5]: sessions, edits, questions, the journal."""

import random
import unittest

from everytick.claims import is_claim, verdict
from everytick.direct import active_states, run_direct
from everytick.equality import same_programs
from everytick.errors import NotAllowed, TooMany
from everytick.least import least_machine
from everytick.machines import first_fault, machine_of
from everytick.making import finished
from everytick.printing import print_node, print_program
from everytick.program_texts import read_program
from everytick.rows import print_row, print_rows
from everytick.sessions import Session, state_of
from everytick.states import translated
from everytick.steps import size_of
from tests.claiming import Claiming
from tests.righting import Righting
from tests.samples import ODD_VALUES, SORTS, X, node, one_node, program

T, F = True, False
LATE = ("node late(x: bool) -> (y: bool)", "y = false fby x", "end")
SWITCH = ("node switch(go: bool) -> (n: mod 4)", "var n1: mod 4", "states", "state Off", "n = 0:4", "until go then On", "state On", "unless n1 = 3:4 then Off",
          "n = 1:4 -> pre n + 1:4", "until not go continue Off", "end", "n1 = 0:4 fby n", "end")


def read(*lines):
    return read_program("\n".join(lines))


def late():
    return Session(read(*LATE, "main late"))


def switch():
    return Session(read("sort E = A | B", *LATE, *SWITCH, "main switch"))


class SessionCase(unittest.TestCase):
    def ask(self, session, line, *told):
        """The answer to a line; a question changes nothing."""
        before = (session.current(), session.plain(), session.journal())
        self.assertEqual(session.enter(line), list(told), line)
        self.assertEqual((session.current(), session.plain(), session.journal()), before)

    def edit(self, session, line):
        """An edit that is answered with ok."""
        journal = session.journal()
        self.assertEqual(session.enter(line), ["ok"], line)
        self.assertEqual(session.journal(), journal + [line])
        self.assertEqual(state_of(session.current()), "ok")
        self.assertEqual(session.plain(), translated(session.current()))


class StateTest(unittest.TestCase):
    """state_of, and [12.1]."""

    def told(self, text, *lines):
        value = read(*lines)
        self.assertEqual(state_of(value), text)
        if text == "ok":
            self.assertEqual(Session(value).current(), value)
        else:
            with self.assertRaises(NotAllowed):
                Session(value)

    def test_good_programs(self):
        self.told("ok", *LATE, "main late")
        self.told("ok", *SWITCH, "main switch")
        for seed in range(20):
            value = Righting(seed, blocks=0.3).program(2)
            told = state_of(value)
            self.assertTrue(told == "ok" or told.split(" ")[0] in ("clock", "ring", "blocks"), told)

    def test_faults(self):
        self.told("fault node late 1", *LATE, *LATE, "main late")
        self.told("fault main - 0", *LATE, "main other")
        self.told("fault double f 1", "node f(x: bool) -> (x: bool)", "x = true", "end", "main f")
        self.told("fault call f 0", "node f(x: bool) -> (y: bool)", "y = g(x)", "end", "main f")
        self.told("fault name f 1", *LATE, "node f(x: bool) -> (y: bool)", "var a: bool", "a = x", "y = z", "end", "main late")
        self.told("fault kind f 0", "node f(x: bool) -> (y: bool)", "y = 1:3", "end", "main f")
        self.told("fault undefined f 2", "node f(x: bool) -> (y: bool, z: bool)", "y = x", "end", "main f")
        self.told("fault state f 0", "node f(x: bool) -> (y: bool)", "states", "state A", "y = x", "until x then C", "state B", "y = x", "end",
                  "end", "main f")
        self.told("fault states f 0", "node f(x: bool) -> (y: bool, z: bool)", "states", "state A", "y = x", "state B", "z = x", "end", "end", "main f")

    def test_blocks(self):
        self.told("blocks", "node f(x: bool) -> (y: bool)", "states", "state A", "unless y then B", "y = x", "state B", "y = x", "end", "end", "main f")
        self.told("blocks", "node f(x: bool) -> (y: bool)", "states", "state A", "y = x", "until pre x then B", "state B", "y = x", "end", "end", "main f")
        self.told("blocks", "node f(x: bool) -> (y: bool)", "states", "state A", "y = merge x (false -> true) (true -> false)", "state B", "y = x",
                  "end", "end", "main f")

    def test_clocks_and_rings(self):
        self.told("clock bad", *LATE, "node bad(x: bool) -> (y: bool)", "y = x when x", "end", "main late")
        self.told("ring f a b", "node f(x: bool) -> (y: bool)", "var a: bool, b: bool", "a = b", "b = a", "y = a", "end", "main f")
        self.told("ring f y", *LATE, "node f(x: bool) -> (y: bool)", "y = y", "end", "main late")
        self.told("clock f", "node e(x: bool) -> (y: bool)", "y = y", "end", "node f(x: bool) -> (y: bool)", "y = x when x", "end", "main f")

    def test_clocks_and_rings_of_the_translation(self):
        value = read("node f(x: bool) -> (y: bool)", "var a: bool", "states", "state A", "y = x", "until a then B", "state B", "y = not x", "end",
                     "a = x when x", "end", "main f")
        self.assertEqual(state_of(value), "clock f")
        value = read("node f(x: bool) -> (y: bool)", "var a: bool", "states", "state A", "y = a", "state B", "y = not x", "end", "a = y", "end",
                     "main f")
        self.assertEqual(state_of(value).split(" ")[:2], ["ring", "f"])
        with self.assertRaises(NotAllowed):
            Session(value)

    def test_the_first_in_order(self):
        # A fault of a later node comes before rings and clocks of earlier ones.
        self.told("fault name g 0", "node f(x: bool) -> (y: bool)", "y = y when x", "end", "node g(x: bool) -> (y: bool)", "y = z", "end", "main f")
        self.told("blocks", "node f(x: bool) -> (y: bool)", "y = y when x", "end", "node g(x: bool) -> (y: bool)", "states", "state A",
                  "unless y then B", "y = x", "state B", "y = x", "end", "end", "main f")

    def test_what_has_not_the_form(self):
        for value in list(ODD_VALUES) + [program(node(((("y",), X),)))[:2], one_node((("y",), ("var", "Y"))), ((), (), "f")]:
            with self.assertRaises(NotAllowed):
                Session(value)


class PutTest(SessionCase):
    """[12.3]: put."""

    def test_example(self):
        session = late()
        self.ask(session, "run true ; false ; false", "false", "true", "false")
        self.ask(session, "put node never(x: bool) -> (y: bool);y = y and x;end", "ring never y")

    def test_a_new_node(self):
        session = late()
        self.edit(session, "put node g(x: bool) -> (y: bool);var a: bool;a = late(x);y = a or x;end")
        self.assertEqual([row[0] for row in session.current()[1]], ["late", "g"])
        self.assertEqual(session.current()[2], "late")

    def test_a_node_in_the_place_of_another_one(self):
        session = Session(read(*LATE, "node g(x: bool) -> (y: bool)", "y = late(x)", "end", "main g"))
        self.edit(session, "put node late(z: bool) -> (w: bool);w = not z;end")
        self.assertEqual(session.current(), read("node late(z: bool) -> (w: bool)", "w = not z", "end", "node g(x: bool) -> (y: bool)", "y = late(x)",
                                                 "end", "main g"))
        self.ask(session, "run true ; false", "false", "true")
        self.ask(session, "put node late(x: bool, z: bool) -> (y: bool);y = x;end", "fault call g 0")

    def test_sorts(self):
        session = late()
        self.edit(session, "put sort E = A | B")
        self.edit(session, "put sort D = C | F")
        self.edit(session, "put sort E = B | A | G")
        self.assertEqual(session.current()[0], (("E", ("B", "A", "G")), ("D", ("C", "F"))))
        self.edit(session, "put node g(e: E) -> (d: D);d = if e = G then F else C;end")
        self.ask(session, "put sort E = A | B", "form")
        self.ask(session, "put sort D = C | F | A", "form")
        self.ask(session, "put sort H = K | C", "form")
        self.edit(session, "put sort D = F | C")

    def test_reading_is_free(self):
        session = late()
        self.edit(session, "put node   g ( x:bool )->( y :bool );;  ;y=( x )   ;end;")
        self.edit(session, "put sort   E=A|B ;")
        self.edit(session, "put ;node h(x: bool) -> (y: bool);y = x;end")
        self.assertEqual(session.current(), read("sort E = A | B", *LATE, "node g(x: bool) -> (y: bool)", "y = x", "end",
                                                 "node h(x: bool) -> (y: bool)", "y = x", "end", "main late"))

    def test_bad(self):
        session = late()
        good = "node g(x: bool) -> (y: bool);y = x;end"
        for text in ("x", "main late", "nodes", "Node g(x: bool) -> (y: bool);y = x;end", "y = x", "end", "= node", f"{good};{good}",
                     f"sort E = A | B;{good}", f"{good};sort E = A | B", "sort E = A | B;sort D = C | F", f"{good};main g", "sort E = A | B;main late",
                     "node g(x: bool) -> (y: bool);main g;y = x;end", ";", ";;", "?", f"x;{good}", f" {good}", f"main late;{good}",
                     "node g(x: bool) -> (y: bool);y = x;node h(x: bool) -> (y: bool);y = x;end"):
            self.ask(session, "put " + text, "bad")
        for line in ("put", "put ", f"put  {good}", f" put {good}", f"Put {good}", f"put;{good}", f"put\t{good}"):
            self.ask(session, line, "bad")

    def test_texts_that_cannot_be_read(self):
        session = Session(read("sort E = A | B", *LATE, "main late"))
        for text, line in (("node", 1), ("node g", 1), ("node g(x: bool) -> (y: bool)", 2), ("node g(x: bool) -> (y: bool);", 3),
                           ("node g(x: bool) -> (y: bool);y = x", 3), ("node g(x: bool) -> (y: bool);y = x;;", 5),
                           ("node g(x: bool) -> (y: bool);end", 2), ("node g(x: bool) -> (y: bool);y = ;end", 2),
                           ("node g(x: bool) -> (y: bool);;y = x x;end", 3), ("node g(x: bool) -> (y: bool);y = x;end;y = x", 4),
                           ("node g(x: bool) -> (y: bool);y = x;end;;end", 5), ("node g(x: bool) -> (y: bool);y = x;end x", 3),
                           ("node g(e: D) -> (y: bool);y = true;end", 1), ("node g(e: E) -> (y: bool);y = e = C;end", 2),
                           ("node g(x: bool) -> (y: mod 33);y = 1:3;end", 1), ("node g(x: bool) -> (y: bool);var a: bool;var b: bool;y = x;end", 3),
                           ("node g(x: bool) -> (y: bool);states;state A;y = x;end;end", 5),
                           ("node g(x: bool) -> (y: bool);states;state A;y = x;state B;y = x;end", 8),
                           ("sort", 1), ("sort E", 1), ("sort E = A", 1), ("sort E = A |", 1), ("sort E = a | B", 1), ("sort D = C | C", 1),
                           ("sort D = C | F;x", 2), ("sort D = C | F;;y = x", 3), ("sort D = C | F extra", 1), ("node ?", 1)):
            self.ask(session, "put " + text, f"text {line}")

    def test_form(self):
        session = late()
        for k in range(11):
            self.edit(session, f"put node g{k}(x: bool) -> (y: bool);y = x;end")
        self.ask(session, "put node h(x: bool) -> (y: bool);y = z;end", "form")
        self.edit(session, "put node g3(x: bool) -> (y: bool);y = not x;end")
        for k in range(8):
            self.edit(session, f"put sort S{k} = A{k} | B{k}")
        self.ask(session, "put sort T = C | D", "form")
        self.edit(session, "put sort S2 = C | D")

    def test_faults_and_what_follows(self):
        session = late()
        for text, told in (("node g(x: bool) -> (y: bool);y = z;end", "fault name g 0"),
                           ("node g(x: bool) -> (y: bool);y = g(x);end", "fault call g 0"),
                           ("node g(x: bool) -> (y: bool, z: bool);y = x;end", "fault undefined g 2"),
                           ("node g(x: bool) -> (y: bool);states;state A;unless y then B;y = x;state B;y = x;end;end", "blocks"),
                           ("node g(x: bool) -> (y: bool);y = x when x;end", "clock g"),
                           ("node g(x: bool) -> (y: bool);var a: bool;a = y;y = a or x;end", "ring g a y")):
            self.ask(session, "put " + text, told)

    def test_the_order_of_the_answers(self):
        session = Session(read("sort E = A | B", *LATE, "main late"))
        # bad before text, text before form, form before fault, fault before clock, clock before ring.
        self.ask(session, "put node g(x: bool) -> (y: bool);y = ;end;main g", "bad")
        self.ask(session, "put sort E = ;node", "bad")
        for k in range(11):
            self.edit(session, f"put node g{k}(x: bool) -> (y: bool);y = x;end")
        self.ask(session, "put node h(x: bool) -> (y: bool);y = ;end", "text 2")
        self.ask(session, "put node h(x: bool) -> (y: bool);y = z;end", "form")
        self.ask(session, "put node g1(x: bool) -> (y: bool);y = z;end", "fault name g1 0")
        self.ask(session, "put node g1(x: bool) -> (y: bool);var a: bool;a = a;y = x when x;end", "clock g1")
        self.ask(session, "put node g1(x: bool) -> (y: bool);var a: bool;a = a;y = x;end", "ring g1 a")


class DropAndMainTest(SessionCase):
    """[12.3]: drop and main."""

    def test_drop(self):
        session = Session(read("sort E = A | B", "sort D = C | F", *LATE, "node g(e: E) -> (y: bool)", "y = e = A", "end",
                               "node h(x: bool) -> (y: bool)", "y = late(x)", "end", "main late"))
        self.ask(session, "drop E", "form")
        self.ask(session, "drop late", "fault main - 0")
        for name in ("k", "F", "y", "none", "?", "A"):
            self.ask(session, f"drop {name}", "none")
        self.edit(session, "drop D")
        self.edit(session, "drop g")
        self.edit(session, "drop E")
        self.edit(session, "main h")
        self.ask(session, "drop late", "fault call h 0")
        self.edit(session, "put node h(x: bool) -> (y: bool);y = x;end")
        self.edit(session, "drop late")
        self.ask(session, "drop h", "form")
        self.assertEqual(session.current(), read("node h(x: bool) -> (y: bool)", "y = x", "end", "main h"))

    def test_a_sort_and_a_constructor_of_one_name(self):
        session = Session(read("sort E = E | B", *LATE, "main late"))
        self.ask(session, "drop B", "none")
        self.edit(session, "drop E")
        self.assertEqual(session.current()[0], ())

    def test_main(self):
        session = Session(read(*LATE, "node g(x: bool) -> (y: bool)", "y = not x", "end", "main late"))
        self.edit(session, "main g")
        self.ask(session, "run true", "false")
        self.edit(session, "main g")
        self.ask(session, "main h", "none")
        self.ask(session, "main E", "none")
        self.edit(session, "main late")
        self.assertEqual(session.current()[2], "late")

    def test_bad(self):
        session = late()
        for word in ("drop", "main"):
            for line in (word, word + " ", word + "  late", word + " late ", word + " late late", word.upper() + " late", " " + word + " late"):
                self.ask(session, line, "bad")


class UndoTest(SessionCase):
    def test_undo(self):
        session = late()
        programs = [session.current()]
        lines = ["put sort E = A | B", "put node g(e: E) -> (y: bool);y = e = A;end", "main g", "drop late", "put sort E = B | A"]
        for line in lines:
            self.edit(session, line)
            programs.append(session.current())
        while lines:
            self.assertEqual(session.journal(), lines)
            self.assertEqual(session.enter("undo"), ["ok"])
            lines.pop()
            programs.pop()
            self.assertEqual(session.current(), programs[-1])
            self.assertEqual(session.plain(), translated(programs[-1]))
            self.assertEqual(session.journal(), lines)
        self.ask(session, "undo", "none")
        self.ask(session, "undo", "none")

    def test_edits_that_were_not_ok_and_questions_between(self):
        session = late()
        self.ask(session, "undo", "none")
        self.edit(session, "put node g(x: bool) -> (y: bool);y = x;end")
        self.ask(session, "put node h(x: bool) -> (y: bool);y = z;end", "fault name h 0")
        self.ask(session, "drop late", "fault main - 0")
        self.ask(session, "size", "2")
        self.assertEqual(session.enter("undo"), ["ok"])
        self.assertEqual(session.current(), read(*LATE, "main late"))
        self.ask(session, "undo", "none")

    def test_edits_behind_undo(self):
        session = late()
        self.edit(session, "put sort E = A | B")
        self.edit(session, "put sort E = B | A")
        session.enter("undo")
        self.edit(session, "put sort D = C | F")
        self.assertEqual(session.journal(), ["put sort E = A | B", "put sort D = C | F"])
        session.enter("undo")
        session.enter("undo")
        self.assertEqual(session.current(), read(*LATE, "main late"))

    def test_an_edit_that_changes_nothing_is_an_edit(self):
        session = late()
        self.edit(session, "main late")
        self.assertEqual(session.enter("undo"), ["ok"])
        self.ask(session, "undo", "none")

    def test_bad(self):
        session = late()
        self.edit(session, "main late")
        for line in ("undo ", " undo", "undo 1", "Undo", "undo undo"):
            self.ask(session, line, "bad")


class QuestionTest(SessionCase):
    """[12.4]"""

    def test_text(self):
        for session in (late(), switch()):
            self.ask(session, "text", *print_program(session.current()).split("\n"))
        self.ask(late(), "text", *LATE, "main late")
        for line in ("text ", "text late", " text"):
            self.ask(late(), line, "bad")

    def test_run(self):
        session = late()
        self.ask(session, "run")
        self.ask(session, "run true", "false")
        self.ask(session, "run true ; true ; false ; false", "false", "true", "true", "false")
        for line in ("run ", "run  true", "run true ", "run 1", "run true true", "run true;false", "run true ;false", "run -", "run true ; ", "run ; true",
                     "Run true", "run true  ; true"):
            self.ask(session, line, "bad")

    def test_run_with_faults(self):
        session = Session(read("node f(x: bool) -> (y: bool, n: mod 12)", "y = if x then pre x else true", "n = 11:12", "end", "main f"))
        self.ask(session, "run false ; true ; true", "true 11", "false 11", "true 11")
        self.ask(session, "run false ; false", "true 11", "true 11")
        self.ask(session, "run true ; true", "fault")
        session = Session(read("node f(x: bool) -> (y: bool)", "var a: bool, b: bool", "a = pre b", "b = false", "y = if x then (true -> pre a) else true",
                               "end", "main f"))
        self.ask(session, "run false ; true ; false", "true", "fault")

    def test_run_without_inputs(self):
        session = Session(read("sort E = A | B", "node f() -> (e: E, n: mod 3)", "e = A fby B", "n = 0:3 -> pre n + 1:3", "end", "main f"))
        self.ask(session, "run - ; - ; -", "A 0", "B 1", "B 2")
        self.ask(session, "run -", "A 0")
        self.ask(session, "run")
        for line in ("run true", "run  ", "run - -", "run -;-"):
            self.ask(session, line, "bad")

    def test_run_and_states_with_blocks(self):
        session = switch()
        self.ask(session, "run true ; true ; true ; true ; true", "0", "1", "2", "3", "0")
        self.ask(session, "states true ; true ; true ; true ; true", "Off", "On", "On", "On", "Off")
        self.ask(session, "states")
        for line in ("states ", "states 1", "states true true", "states true ;true"):
            self.ask(session, line, "bad")

    def test_states_without_blocks_and_with_several(self):
        self.ask(late(), "states true ; false", "-", "-")
        block = ("states", "state A", "{0} = x", "until x then B", "state B", "{0} = not x", "end")
        lines = [line.format(name) for name in ("y", "z") for line in block]
        session = Session(read("node f(x: bool) -> (y: bool, z: bool)", *lines, "end", "main f"))
        self.ask(session, "states false ; true ; true", "A A", "A A", "B B")
        session = Session(read("node f(x: bool) -> (y: bool)", "states", "state A", "y = pre x", "state B", "y = x", "end", "end", "main f"))
        self.ask(session, "states true")
        self.ask(session, "run true", "fault")

    def test_machine_and_least(self):
        session = late()
        self.ask(session, "machine 3", "states 3")
        self.ask(session, "machine 999999", "states 3")
        self.ask(session, "least 3", "states 2")
        for line in ("machine 2", "least 2", "machine 1", "machine 0", "least 0", "sound 2"):
            self.ask(session, line, "many")
        session = switch()
        plain = session.plain()
        many = len(machine_of(plain, 1000)[1])
        self.ask(session, f"machine {many}", f"states {many}")
        self.ask(session, f"machine {many - 1}", "many")
        self.ask(session, f"least {many}", f"states {len(least_machine(machine_of(plain, 1000))[1])}")

    def test_limits(self):
        session = late()
        for word in ("machine", "least", "sound"):
            for line in (word, word + " ", word + " 03", word + " 00", word + " 1000000", word + " -1", word + " +3", word + " 3 ", word + "  3",
                         word + " 3 3", word + " x", word + " 1_0", word + " 3.0", word.upper() + " 3"):
                self.ask(session, line, "bad")
        self.assertNotEqual(session.enter("machine 100000"), ["bad"])

    def test_more_than_256_rows(self):
        session = Session(read("node g(n: mod 32, m: mod 8) -> (y: bool)", "y = n = n", "end", "node f(n: mod 32, m: mod 9) -> (y: bool)", "y = n = n",
                               "end", "main f"))
        for line in ("machine 10", "least 10", "sound 10", "same f 10"):
            self.ask(session, line, "many")
        self.ask(session, "same g 10", "interface")
        self.ask(session, "claim 10 node c(n: mod 32, m: mod 9, y: bool) -> (ok: bool);ok = y;end", "many")
        self.ask(session, "run 31 8 ; 0 0", "true", "true")
        self.edit(session, "main g")
        self.ask(session, "machine 1", "states 1")

    def test_sound(self):
        self.ask(late(), "sound 3", "sound")
        session = Session(read("node f(x: bool, n: mod 2) -> (y: bool)", "y = if x and n = 1:2 then pre x else true", "end", "main f"))
        self.ask(session, "sound 10", "fault true 1")
        session = Session(read("node f(x: bool) -> (y: bool)", "y = true -> (if x then pre pre x else true)", "end", "main f"))
        self.ask(session, "sound 100", "fault false ; true")
        session = Session(read("node f() -> (y: bool)", "y = true -> pre pre y", "end", "main f"))
        self.ask(session, "sound 100", "fault - ; -")

    def test_same(self):
        session = Session(read("sort E = A | B", *LATE, "node g(z: bool) -> (y: bool)", "y = false -> pre z", "end",
                               "node h(x: bool) -> (y: bool)", "y = x and (false fby x)", "end", "node k(e: E) -> (y: bool)", "y = e = A", "end",
                               "main late"))
        self.ask(session, "same late 3", "same 3")
        self.ask(session, "same g 10", "same 3")
        self.ask(session, "same h 10", "apart true ; false")
        self.ask(session, "same k 10", "interface")
        self.ask(session, "same k 1", "interface")
        for name in ("m", "E", "Late", "y", "?"):
            self.ask(session, f"same {name} 10", "none")
        self.ask(session, "same g 2", "many")
        for line in ("same", "same ", "same g", "same g ", "same 10", "same  10", "same g  10", "same g 010", "same g 10 ", "same g 10 10", "same g x",
                     "same m 1000000"):
            self.ask(session, line, "bad")

    def test_claim(self):
        session = late()
        self.ask(session, "claim 10 node c(x: bool, y: bool) -> (ok: bool);ok = y = (false fby x);end", "holds 3")
        self.ask(session, "claim 10 node c(x: bool, y: bool) -> (ok: bool);ok = not y;end", "breaks true ; false")
        self.ask(session, "claim 10 node c(x: bool, y: bool) -> (ok: bool);var a: bool;a = late(x);ok = a = y;end", "holds 3")
        self.ask(session, "claim 10 node c(x: bool, y: bool) -> (ok: bool);ok = pre x;end", "breaks false")
        self.ask(session, "claim 2 node c(x: bool, y: bool) -> (ok: bool);ok = true;end", "many")
        self.ask(session, "claim 3 node c(x: bool, y: bool) -> (ok: bool);ok = true;end", "holds 3")
        good = "node c(x: bool, y: bool) -> (ok: bool);ok = true;end"
        for text in ("node late(x: bool, y: bool) -> (ok: bool);ok = true;end", "node c(x: bool) -> (ok: bool);ok = true;end",
                     "node c(x: bool, y: bool) -> (ok: mod 2);ok = 1:2;end", "node c(x: bool, y: bool) -> (ok: bool);ok = z;end",
                     "node c(x: bool, y: bool) -> (ok: bool);ok = ok;end", "node c(x: bool, y: bool) -> (ok: bool);ok = x when y;end",
                     "node c(x: bool, y: bool) -> (ok: bool);ok = true", "node c(x: bool, y: bool) -> (ok: bool);ok = ;end", f"{good};{good}",
                     f"{good};main c", "sort E = A | B", "", ";", "x", f" {good}", good.replace("ok = true", "ok = merge x (false -> y) (true -> y)"),
                     good.replace("ok = true", "states;state A;ok = x;state B;ok = y;end")):
            self.ask(session, "claim 10 " + text, "bad")
        for line in ("claim", "claim ", "claim 10", f"claim {good}", f"claim 010 {good}", f"claim 1000000 {good}", f"claim  10 {good}", f"claim x {good}"):
            self.ask(session, line, "bad")
        self.ask(session, f"claim 10 ;{good};", "holds 3")

    def test_claims_about_programs_with_blocks(self):
        session = switch()
        plain = session.plain()
        text = "node c(go: bool, n: mod 4) -> (ok: bool);ok = go or n <> 3:4 or not (true fby go);end"
        claim = read("node c(go: bool, n: mod 4) -> (ok: bool)", "ok = go or n <> 3:4 or not (true fby go)", "end", "main c")[1][0]
        if is_claim(plain, claim):
            word, found = verdict(plain, claim, 1000)
            told = f"holds {len(found)}" if word == "holds" else f"breaks {print_rows(found)}"
        else:
            told = "bad"
        self.ask(session, "claim 1000 " + text, told)
        small = Session(read("node f(x: bool) -> (y: bool)", "states", "state A", "y = x", "until x then B", "state B", "y = not x", "end", "end", "main f"))
        self.ask(small, "claim 100 node c(x: bool, y: bool) -> (ok: bool);ok = x = y;end", "breaks true ; false")
        self.assertEqual(small.enter("claim 100 node c(x: bool, y: bool) -> (ok: bool);ok = x = y or (false fby (true fby x) or pre x);end")[0][:6], "breaks")

    def test_size(self):
        self.ask(late(), "size", "2")
        self.ask(switch(), "size", str(size_of(finished(switch().plain()))))
        self.ask(Session(read("node f(x: bool) -> (y: bool)", "y = x", "end", "main f")), "size", "0")
        for line in ("size ", "size 3", " size"):
            self.ask(late(), line, "bad")

    def test_other_lines(self):
        for line in ("", " ", "-", "journal", "plain", "current", "help", "?", "true", "run=true", "texts", "state", "TEXT"):
            self.ask(late(), line, "bad")

    def test_random_programs(self):
        done = 0
        for seed in range(60):
            value = Righting(seed, nil=0.1, blocks=0.3).program(1 + seed % 3)
            if state_of(value) != "ok":
                continue
            session = Session(value)
            plain = session.plain()
            rows = Righting(seed).rows(value, 8)
            outputs, fault = run_direct(value, rows)
            self.ask(session, f"run {print_rows(rows)}", *[print_row(row) for row in outputs], *(["fault"] if fault is not None else []))
            self.ask(session, f"states {print_rows(rows)}", *[" ".join(names) or "-" for names in active_states(value, rows)])
            self.ask(session, "size", str(size_of(finished(plain))))
            try:
                machine = machine_of(plain, 40)
            except TooMany:
                self.ask(session, "machine 40", "many")
                continue
            done += 1
            self.ask(session, "machine 40", f"states {len(machine[1])}")
            self.ask(session, "least 40", f"states {len(least_machine(machine)[1])}")
            found = first_fault(machine)
            self.ask(session, "sound 40", "sound" if found is None else f"fault {print_rows(tuple(machine[0][r] for r in found))}")
            name = plain[1][0][0]
            told = same_programs(plain, plain[:2] + (name,), 10000)
            self.assertEqual(session.enter(f"same {name} 10000")[0].split(" ")[0], told[0])
            claim = Claiming(seed).claim(plain)
            line = ";".join(print_node(claim))
            word = session.enter("claim 10000 " + line)[0].split(" ")[0]
            if is_claim(plain, claim):
                self.assertEqual(word, {"holds": "holds", "broken": "breaks"}[verdict(plain, claim, 10000)[0]])
            else:
                self.assertEqual(word, "bad")
        self.assertGreater(done, 15)


class JournalTest(SessionCase):
    """[12.5], and that answers are as from nothing."""

    QUESTIONS = ("text", "run", "run true ; false ; true", "run 1 ; 0", "states true ; false", "machine 50", "least 50", "sound 50", "size",
                 "same f0 50", "same f1 50", "claim 50 node c(x: bool, y: bool) -> (ok: bool);ok = x or not y;end", "nothing")

    def test_random_sessions(self):
        for seed in range(25):
            chance = random.Random(seed)
            start = read("node f0(x: bool) -> (y: bool)", "y = false fby x", "end", "main f0")
            session = Session(start)
            lines = self.lines(chance, seed)
            answers = {"ok": 0}
            for line in lines:
                told = session.enter(line)
                answers[told[0] if told else ""] = answers.get(told[0] if told else "", 0) + 1
                if line in self.QUESTIONS:
                    self.assertEqual(Session(session.current()).enter(line), told)
            again = Session(start)
            for line in session.journal():
                self.assertEqual(again.enter(line), ["ok"])
            self.assertEqual((again.current(), again.plain(), again.journal()), (session.current(), session.plain(), session.journal()))
            self.assertGreater(answers["ok"], 5)

    def lines(self, chance, seed):
        """Lines of a session: many edits, and questions among them."""
        maker = Righting(seed, blocks=0.2, groups=3)
        found = [f"put sort {name} = {' | '.join(row)}" for name, row in SORTS]
        for _ in range(50):
            word = chance.choice(("put", "put", "put", "drop", "main", "undo", "ask", "ask", "ask"))
            name = f"f{chance.randrange(4)}"
            if word == "put":
                found.append("put " + ";".join(print_node(maker.node(name, ()))))
            elif word in ("drop", "main"):
                found.append(f"{word} {name}")
            else:
                found.append("undo" if word == "undo" else chance.choice(self.QUESTIONS))
        return found

    def test_nothing_is_handed_out_that_is_kept(self):
        session = late()
        session.enter("main late")
        for told in (session.journal(), session.enter("text"), session.enter("run true")):
            told.clear()
        self.assertEqual(session.journal(), ["main late"])
        self.assertEqual(session.enter("text"), [*LATE, "main late"])

    def test_two_sessions(self):
        one, other = late(), late()
        one.enter("put sort E = A | B")
        self.assertEqual((other.journal(), other.enter("undo")), ([], ["none"]))


if __name__ == "__main__":
    unittest.main()
