"""What goes from state to state by input rows, and certificates about it ([10.3], [10.4], [11.3] to [11.5]).

A system has the attribute start, its state at the beginning; is_state(value), which tells whether any value is a
state by its form; entered(value), which returns the state that such a value is; and onward(state, row), which tells of
an instant whether it is as it shall be, and returns the state behind it, or None if it does not matter how it goes on.
States are objects of pools, or pairs of such: they are the same exactly if the values are. So a beginning is never
gone through as a whole, however large it is.
"""

from everytick.exact import are_exact
from everytick.instances import instant_of, main_plan
from everytick.machine_forms import is_memory
from everytick.meaning import is_row
from everytick.orders import choice_at, count_of, input_choices
from everytick.programs import is_tuple
from everytick.state_forms import StateForms
from everytick.steps import Stepper


class Watched:
    """A program whose instants shall not be faults and, if wanted is not None, shall give these outputs."""

    def __init__(self, program, wanted):
        self.plan = main_plan(program)
        self.forms = StateForms(program)
        self.wanted = wanted
        self.start = self.plan.beginning

    def is_state(self, value):
        """Tell whether any value is a state of the program."""
        return self.forms.is_state(value)

    def entered(self, value):
        """Return the state that a value is."""
        return self.plan.pool.entered(value)

    def onward(self, state, row):
        """Tell whether an instant is as it shall be, and the state behind it."""
        moment = instant_of(self.plan, state, row)
        if moment is None or (self.wanted is not None and moment.outputs() != self.wanted):
            return (False, None)
        return (True, moment.state())


class Together:
    """Two programs which shall have faults at the same instants, and else give the same outputs."""

    def __init__(self, one, other):
        self.plans = [main_plan(one), main_plan(other)]
        self.forms = [StateForms(one), StateForms(other)]
        self.start = (self.plans[0].beginning, self.plans[1].beginning)

    def is_state(self, value):
        """Tell whether any value is a pair of states of the programs."""
        return is_tuple(value, 2, 2) and self.forms[0].is_state(value[0]) and self.forms[1].is_state(value[1])

    def entered(self, value):
        """Return the pair of states that a value is."""
        return (self.plans[0].pool.entered(value[0]), self.plans[1].pool.entered(value[1]))

    def onward(self, state, row):
        """Tell whether an instant is as it shall be, and the states behind it."""
        mine = instant_of(self.plans[0], state[0], row)
        yours = instant_of(self.plans[1], state[1], row)
        if mine is None or yours is None:
            return (mine is None and yours is None, None)
        if not are_exact(mine.outputs(), yours.outputs()):
            return (False, None)
        return (True, (mine.state(), yours.state()))


class Carried:
    """A program and a step machine which shall give the same outputs, up to a fault of the program."""

    def __init__(self, program, machine):
        self.plan = main_plan(program)
        self.forms = StateForms(program)
        self.machine = machine
        self.stepper = Stepper(machine)
        self.start = (self.plan.beginning, self.stepper.beginning)

    def is_state(self, value):
        """Tell whether any value is a pair of a state of the program and a memory of the machine."""
        return is_tuple(value, 2, 2) and self.forms.is_state(value[0]) and is_memory(self.machine, value[1])

    def entered(self, value):
        """Return the pair of a state and a memory that a value is."""
        return (self.plan.pool.entered(value[0]), self.stepper.pool.entered(value[1]))

    def onward(self, state, row):
        """Tell whether an instant is as it shall be, and the state and the memory behind it."""
        moment = instant_of(self.plan, state[0], row)
        if moment is None:
            return (True, None)
        outputs, memory = self.stepper.stepped(state[1], row)
        if not are_exact(moment.outputs(), outputs):
            return (False, None)
        return (True, (moment.state(), memory))


def is_closed_in(system, program, value):
    """Tell whether any value is a tuple of different states, the beginning among them, that no instant leads out of.

    All instants from these states have to be as they shall be, by all input rows of the program.
    """
    if not isinstance(value, tuple) or not all(system.is_state(state) for state in value):
        return False
    states = {system.entered(state): True for state in value}
    if len(states) < len(value) or system.start not in states:
        return False
    choices = input_choices(program)
    for state in states:
        for k in range(count_of(choices)):
            good, after = system.onward(state, choice_at(choices, k))
            if not good or (after is not None and after not in states):
                return False
    return True


def is_way_out_of(system, program, value):
    """Tell whether any value is a tuple of input rows of the program the last instant of which alone is not good."""
    if not isinstance(value, tuple) or not value or not all(is_row(program, row) for row in value):
        return False
    state = system.start
    for row in value[:-1]:
        _, state = system.onward(state, row)
        if state is None:
            return False
    good, _ = system.onward(state, value[-1])
    return not good
