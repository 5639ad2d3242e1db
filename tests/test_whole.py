"""[0.2] and what the document promises over the whole program: one program on its way through all parts."""

import unittest

from everytick.causality import is_right, ring_of
from everytick.checker import check, is_sound
from everytick.clocks import clash_of
from everytick.direct import run_direct
from everytick.equality import compared, same_programs
from everytick.errors import TooMany
from everytick.kinds import fits
from everytick.least import classes, least_machine
from everytick.machines import explored, first_fault, input_rows, is_machine, machine_of, run_machine
from everytick.making import finished, made
from everytick.meaning import run
from everytick.normal import cell_count, normalized
from everytick.printing import print_program
from everytick.program_texts import read_program
from everytick.programs import is_program
from everytick.schedules import first_schedule
from everytick.sessions import Session, state_of
from everytick.sharing import shared
from everytick.states import translated
from everytick.steps import run_steps, size_of
from tests.fitting import Fitting
from tests.righting import Righting
from tests.samples import same


class RefusedOrRightTest(unittest.TestCase):
    """[0.2]: a program is refused with a certificate, or it is right."""

    def test_certificates(self):
        told = {"clash": 0, "ring": 0, "right": 0}
        for seed in range(150):
            maker = Fitting(seed, loose=0.05 * (seed % 3)) if seed % 4 else Righting(seed)
            value = maker.program(1 + seed % 3)
            self.assertEqual(read_program(print_program(value)), value)
            self.assertTrue(fits(value))
            clash = clash_of(value)
            ring = None if clash is not None else ring_of(value)
            word = "clash" if clash is not None else "ring" if ring is not None else "right"
            told[word] += 1
            self.assertEqual(is_right(value), word == "right")
            self.assertEqual(state_of(value) == "ok", word == "right")
            if word == "clash":
                self.assertTrue(check(("clash", value, clash[0]), clash[1]))
                self.assertEqual(state_of(value), f"clock {clash[0]}")
            elif word == "ring":
                self.assertTrue(check(("ring", value, ring[0]), ring[1]))
                self.assertEqual(state_of(value), " ".join(("ring", ring[0]) + ring[1]))
            else:
                for name, *_ in value[1]:
                    self.assertTrue(check(("order", value, name), first_schedule(value, name)))
        self.assertGreater(min(told.values()), 10)


class OneMeaningTest(unittest.TestCase):
    """[6.6], [7.5], [7.10], [8.10], [9.2] to [9.6] and [12.5] for the same programs."""

    def test_all_forms_of_a_program(self):
        done = 0
        for seed in range(80):
            value = Righting(seed, nil=0.05, blocks=0.35, groups=3).program(1 + seed % 2)
            self.assertEqual(read_program(print_program(value)), value)
            if state_of(value) != "ok":
                continue
            plain = translated(value)
            rows = Righting(seed + 1).rows(value, 15)
            outputs, fault = run(plain, rows)
            self.assertTrue(same(run_direct(value, rows), (outputs, fault)))
            self.forms(plain, rows[:len(outputs)], outputs)
            try:
                done += self.machines(value, plain)
            except TooMany:
                continue
        self.assertGreater(done, 25)

    def forms(self, plain, rows, outputs):
        """The forms of a right program, up to its first fault."""
        for form in (normalized(plain), shared(plain), normalized(shared(plain)), shared(normalized(plain))):
            self.assertTrue(is_right(form))
            self.assertTrue(same(run(form, rows), (outputs, None)))
            self.assertTrue(same(run_steps(finished(form), rows), outputs))
            self.assertLessEqual(size_of(finished(form)), cell_count(form))
        self.assertTrue(same(run_steps(made(normalized(plain)), rows), outputs))
        self.assertLessEqual(cell_count(shared(plain)), cell_count(plain))

    def machines(self, value, plain):
        """The finite machine of a right program, and what is told of it."""
        machine = machine_of(plain, 40)
        least = least_machine(machine)
        self.assertTrue(is_machine(machine) and is_machine(least))
        self.assertEqual(compared(machine, least), ("same", tuple(enumerate(classes(machine)))))
        for form in (normalized(plain), shared(plain)):
            self.assertEqual(same_programs(plain, form, 5000)[0], "same")
            self.assertEqual(least_machine(machine_of(form, 5000)), least)
        fault = first_fault(machine)
        rows = input_rows(plain)
        self.assertEqual(first_fault(least), fault)
        if fault is not None:
            self.assertEqual(run_machine(machine, fault)[1], len(fault) - 1)
        if is_program(plain):
            word, told = ("sound", tuple(explored(plain, 40)[1])) if fault is None else ("fault", tuple(rows[r] for r in fault))
            self.assertEqual(is_sound((word, plain)), True)
            self.assertEqual(check((word, plain), told), True)
        session = Session(value)
        self.assertEqual(session.enter("machine 40"), [f"states {len(machine[1])}"])
        self.assertEqual(session.enter("least 40"), [f"states {len(least[1])}"])
        self.assertEqual(session.enter("sound 40")[0].split(" ")[0], "sound" if fault is None else "fault")
        return 1


if __name__ == "__main__":
    unittest.main()
