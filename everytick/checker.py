"""The checker: whether certificates of statements are right ([11.1] to [11.7])."""

from everytick.causality import is_right, needs
from everytick.clockings import is_clash, is_clocking
from everytick.clocks import clash_of
from everytick.kinds import fits, have_same_interface
from everytick.machine_forms import are_classes
from everytick.observing import is_claim_about, observed_program
from everytick.orders import MAX_ROWS, count_of, input_choices
from everytick.programs import is_program, is_tuple, node_named
from everytick.schedules import is_schedule
from everytick.systems import Carried, Together, Watched, is_closed_in, is_way_out_of
from everytick.uses import blocks_of


def is_sound(statement):
    """Tell whether any value is a statement that is sound in form."""
    if not is_tuple(statement, 2, 3) or not isinstance(statement[0], str) or statement[0] not in FORMS:
        return False
    action = FORMS[statement[0]]
    return len(statement) == LENGTHS.get(statement[0], 3) and action(statement)


def check(statement, certificate):
    """Tell whether any value is a certificate that is right for any value as a statement."""
    if not is_sound(statement):
        return False
    action = CHECKS[statement[0]]
    return action(statement, certificate)


def _is_flat(value):
    """Tell whether any value is a program by its form without state machines."""
    return is_program(value) and not any([blocks_of(node) for node in value[1]])


def _has_node(program, name):
    return isinstance(name, str) and node_named(program, name) is not None


def _is_about_clocks(statement):
    _, program, name = statement
    return _is_flat(program) and fits(program) and _has_node(program, name)


def _is_about_needs(statement):
    return _is_about_clocks(statement) and clash_of(statement[1]) is None


def _is_about_runs(statement):
    """Tell whether the first part of a statement is a right program with no more input rows than there may be."""
    program = statement[1]
    return _is_flat(program) and is_right(program) and count_of(input_choices(program)) <= MAX_ROWS


def _is_about_claim(statement):
    return _is_about_runs(statement) and is_claim_about(statement[1], statement[2])


def _is_about_two(statement):
    word, one, other = statement
    return _is_about_runs(statement) and _is_about_runs((word, other)) and have_same_interface(one, other)


def _is_about_machine(statement):
    _, program, machine = statement
    if not _is_about_runs(statement) or not are_classes(machine):
        return False
    main = node_named(program, program[2])
    return (len(machine[-1][1]), len(machine[-1][2])) == (len(main[1]), len(main[2]))


def _check_clocked(statement, value):
    return is_clocking(statement[1], statement[2], value)


def _check_clash(statement, value):
    return is_clash(statement[1], statement[2], value)


def _check_order(statement, value):
    return is_schedule(statement[1], statement[2], value)


def _check_ring(statement, value):
    """Tell whether any value is a ring: each variable needs the next one, and the last one the first one."""
    needed = dict(needs(statement[1], statement[2]))
    if not isinstance(value, tuple) or not value or not all(isinstance(x, str) for x in value):
        return False
    return all([x in needed and y in needed[x] for x, y in zip(value, (*value[1:], value[0]))])


def _system_of(statement):
    """Return the pair of what a statement is about and the program whose input rows make it go on."""
    word, program = statement[:2]
    if word in ("sound", "fault"):
        return (Watched(program, None), program)
    if word in ("holds", "breaks"):
        whole = observed_program(program, statement[2])
        return (Watched(whole, (True,)), whole)
    if word in ("same", "apart"):
        return (Together(program, statement[2]), program)
    return (Carried(program, statement[2]), program)


def _check_closed(statement, value):
    system, program = _system_of(statement)
    return is_closed_in(system, program, value)


def _check_way_out(statement, value):
    system, program = _system_of(statement)
    return is_way_out_of(system, program, value)


# How many parts a statement has together with its word, if not three.
LENGTHS = {"sound": 2, "fault": 2}

FORMS = {
    "clocked": _is_about_clocks, "clash": _is_about_clocks, "order": _is_about_needs, "ring": _is_about_needs,
    "sound": _is_about_runs, "fault": _is_about_runs, "holds": _is_about_claim, "breaks": _is_about_claim,
    "same": _is_about_two, "apart": _is_about_two, "carries": _is_about_machine, "strays": _is_about_machine,
}

CHECKS = {
    "clocked": _check_clocked, "clash": _check_clash, "order": _check_order, "ring": _check_ring,
    "sound": _check_closed, "fault": _check_way_out, "holds": _check_closed, "breaks": _check_way_out,
    "same": _check_closed, "apart": _check_way_out, "carries": _check_closed, "strays": _check_way_out,
}
