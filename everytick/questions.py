"""The questions of a session ([12.4]).

Each one has the program of the session, its plain program, and what stands behind the first word of the line and a
space, None if the line is only a word. It returns the list of the lines of the answer.
"""

from everytick.claims import is_claim, verdict
from everytick.direct import active_states, run_direct
from everytick.edits import Refused, node_of
from everytick.equality import same_programs
from everytick.errors import BadText
from everytick.kinds import interface_of
from everytick.least import least_machine
from everytick.machines import first_fault, machine_of
from everytick.making import finished
from everytick.printing import print_program
from everytick.programs import DIGITS, node_named
from everytick.rows import print_row, print_rows, read_rows
from everytick.steps import size_of

MAX_DIGITS = 6


def _need(condition):
    """Go on only if a line is as it should be."""
    if not condition:
        raise Refused("bad")


def _limit(text):
    """Return the limit of a text."""
    _need(text is not None and 1 <= len(text) <= MAX_DIGITS and all(sign in DIGITS for sign in text))
    _need(str(int(text)) == text)
    return int(text)


def _rows(program, text):
    """Return the input rows of a text; if there are none, the space before them is missing, too."""
    if text is None:
        return ()
    _need(text != "")
    try:
        return read_rows(program[0], interface_of(program, program[2])[0], text)
    except BadText:
        raise Refused("bad")


def _text(program, plain, rest):
    _need(rest is None)
    return print_program(program).split("\n")


def _run(program, plain, rest):
    outputs, fault = run_direct(program, _rows(program, rest))
    lines = [print_row(row) for row in outputs]
    return lines if fault is None else [*lines, "fault"]


def _states(program, plain, rest):
    return [print_row(names) for names in active_states(program, _rows(program, rest))]


def _machine(program, plain, rest):
    return _many_states(machine_of(plain, _limit(rest)))


def _least(program, plain, rest):
    return _many_states(least_machine(machine_of(plain, _limit(rest))))


def _many_states(machine):
    return [f"states {len(machine[1])}"]


def _sound(program, plain, rest):
    machine = machine_of(plain, _limit(rest))
    found = first_fault(machine)
    if found is None:
        return ["sound"]
    rows = print_rows([machine[0][r] for r in found])
    return [f"fault {rows}"]


def _same(program, plain, rest):
    _need(rest is not None)
    name, _, text = rest.partition(" ")
    _need(name != "")
    limit = _limit(text)
    if node_named(plain, name) is None:
        return ["none"]
    found = same_programs(plain, (*plain[:2], name), limit)
    if found[0] == "same":
        return [f"same {len(found[1])}"]
    if found[0] == "apart":
        return [f"apart {print_rows(found[1])}"]
    return ["interface"]


def _claim(program, plain, rest):
    _need(rest is not None)
    text, _, lines = rest.partition(" ")
    limit = _limit(text)
    _need(not lines.startswith(" "))
    try:
        claim = node_of(plain[0], lines)
    except BadText:
        raise Refused("bad")
    _need(is_claim(plain, claim))
    word, found = verdict(plain, claim, limit)
    if word == "holds":
        return [f"holds {len(found)}"]
    return [f"breaks {print_rows(found)}"]


def _size(program, plain, rest):
    _need(rest is None)
    return [str(size_of(finished(plain)))]


QUESTIONS = {
    "text": _text, "run": _run, "states": _states, "machine": _machine, "least": _least, "sound": _sound,
    "same": _same, "claim": _claim, "size": _size,
}


def answered(word, program, plain, rest):
    """Return the answer to a question, given by its first word."""
    _need(word in QUESTIONS)
    action = QUESTIONS[word]
    return action(program, plain, rest)
