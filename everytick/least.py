"""States that do the same, and least machines ([9.5])."""

from everytick.exact import key_of


def classes(machine):
    """Return a tuple with the number of the class of each state, numbered in the order in which they come up."""
    partition = Partition(machine[1])
    partition.refine()
    return tuple(_in_order(partition.numbers))


def least_machine(machine):
    """Return the least machine that does the same."""
    rows, table = machine
    numbers = classes(machine)
    found = []
    for s, entries in enumerate(table):
        if numbers[s] == len(found):
            found.append(tuple([_led_to(numbers, entry) for entry in entries]))
    return (rows, tuple(found))


def _led_to(numbers, entry):
    """Return an entry of a table with the number of the class of its next state."""
    return None if entry is None else (entry[0], numbers[entry[1]])


def _in_order(marks):
    """Return a list in which each mark is exchanged for its number in the order in which the marks come up."""
    found = {}
    numbers = []
    for mark in marks:
        numbers.append(found.setdefault(mark, len(found)))
    return numbers


class Partition:
    """The states of a machine, put apart into classes as far as it has been seen that they do not do the same.

    A class that is parted gives a new number to its smaller part. So each state changes its class only as often as
    the number of states can be halved, however late the rows are behind which states differ.
    """

    def __init__(self, table):
        self.numbers = _in_order([_shown(entries) for entries in table])
        self.members = [{} for _ in range(max(self.numbers) + 1)]
        for s, number in enumerate(self.numbers):
            self.members[number][s] = True
        self.many = len(table[0])
        self.before = [{} for _ in range(self.many)]
        for s, entries in enumerate(table):
            for r, entry in enumerate(entries):
                if entry is not None:
                    self.before[r].setdefault(entry[1], []).append(s)
        self.rest = []
        for number in range(len(self.members)):
            self.look_at(number)

    def look_at(self, number):
        """From now on it is still to be looked at what leads into a class, row by row."""
        for r in range(self.many):
            self.rest.append((number, r))

    def refine(self):
        """Put apart all states that do not do the same."""
        while self.rest:
            number, r = self.rest.pop()
            before = self.before[r]
            leading = {}
            for s in self.members[number]:
                for other in before.get(s, ()):
                    leading.setdefault(self.numbers[other], []).append(other)
            for parted in leading:
                self.part(parted, leading[parted])

    def part(self, number, inside):
        """Put apart a class into some of its states and the others."""
        members = self.members[number]
        if len(inside) == len(members):
            return
        smaller = inside
        if 2 * len(inside) > len(members):
            chosen = {s: True for s in inside}
            smaller = [s for s in members if s not in chosen]
        for s in smaller:
            del members[s]
            self.numbers[s] = len(self.members)
        self.members.append({s: True for s in smaller})
        self.look_at(len(self.members) - 1)


def _shown(entries):
    """Return a key for what a state gives by each row at once."""
    return key_of(tuple([None if entry is None else entry[0] for entry in entries]))
