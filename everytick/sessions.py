"""Sessions: a program that is changed and asked line by line ([12.1] to [12.5])."""

from everytick.causality import ring_of
from everytick.clocks import clash_of
from everytick.edits import EDITS, Refused, edited
from everytick.errors import NotAllowed, TooMany
from everytick.kinds import fault_of
from everytick.programs import is_program
from everytick.questions import answered
from everytick.states import are_blocks, translated

def state_of(program):
    """Return ok if a program is good, otherwise the text that tells the first thing that is not as it should be."""
    fault = fault_of(program)
    if fault is not None:
        word, node, k = fault
        return " ".join(["fault", word, "-" if node == "" else node, str(k)])
    if not are_blocks(program):
        return "blocks"
    plain = translated(program)
    clash = clash_of(plain)
    if clash is not None:
        return f"clock {clash[0]}"
    ring = ring_of(plain)
    if ring is not None:
        return " ".join(["ring", ring[0], *ring[1]])
    return "ok"


class Session:
    """A session with a good program."""

    def __init__(self, program):
        if not is_program(program) or state_of(program) != "ok":
            raise NotAllowed("the program is not good")
        self.program = program
        self.translation = translated(program)
        # The edits that were not taken back, each with the program before it.
        self.done = []

    def current(self):
        """Return the program."""
        return self.program

    def plain(self):
        """Return the plain program."""
        return self.translation

    def journal(self):
        """Return the list of the edits that were answered with ok and not taken back."""
        return [line for line, _ in self.done]

    def enter(self, line):
        """Return the list of the lines of the answer to a line."""
        word, space, rest = line.partition(" ")
        if space == "":
            rest = None
        try:
            if word in EDITS:
                self.edit(line, word, rest)
                return ["ok"]
            if line == "undo":
                self.take_back()
                return ["ok"]
            return answered(word, self.program, self.translation, rest)
        except Refused as refused:
            return [refused.answer]
        except TooMany:
            return ["many"]

    def edit(self, line, word, rest):
        """Change the program as a line says; raise Refused if it does not stay good."""
        program = edited(word, self.program, rest)
        if not is_program(program):
            raise Refused("form")
        told = state_of(program)
        if told != "ok":
            raise Refused(told)
        self.done.append((line, self.program))
        self.go_to(program)

    def take_back(self):
        """Take back the last edit; raise Refused if there is none."""
        if not self.done:
            raise Refused("none")
        _, program = self.done.pop()
        self.go_to(program)

    def go_to(self, program):
        """From now on the session has this program."""
        self.program = program
        self.translation = translated(program)
