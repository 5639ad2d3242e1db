"""The form of step machines ([8.1] to [8.3])."""

from everytick.kinds import MEMORIES
from everytick.lowering import NUMBERS
from everytick.programs import MAX_MOD, PLAIN_PARTS, are_different, is_tuple, is_whole, marked


def are_classes(value):
    """Tell whether any value is the tuple of the classes of a step machine."""
    if not isinstance(value, tuple) or not value:
        return False
    if not all(is_tuple(row, 6, 6) and isinstance(row[0], str) for row in value):
        return False
    if not are_different([row[0] for row in value]):
        return False
    return all(_is_class(value[:at], row) for at, row in enumerate(value))


def _is_class(earlier, value):
    """Tell whether a tuple of a name and five more values is a class behind some earlier ones."""
    _, inputs, outputs, cells, parts, body = value
    if not _are_variables(inputs) or not _are_variables(outputs):
        return False
    if not isinstance(cells, tuple) or not all(_is_constant(cell) for cell in cells):
        return False
    if not isinstance(parts, tuple) or not all(is_whole(part, 0, len(earlier) - 1) for part in parts):
        return False
    sizes = [(len(earlier[part][1]), len(earlier[part][2])) for part in parts]
    return Body(len(cells), sizes).are_statements(body)


def is_memory(machine, value):
    """Tell whether any value may be a memory of a step machine, whether its steps can lead to it or not."""
    return _is_memory_of(machine, len(machine) - 1, value)


def _is_memory_of(machine, at, value):
    _, _, _, cells, parts, _ = machine[at]
    if not is_tuple(value, 2, 2):
        return False
    held, inner = value
    if not is_tuple(held, len(cells), len(cells)) or not is_tuple(inner, len(parts), len(parts)):
        return False
    if not all(cell is None or _is_constant(cell) for cell in held):
        return False
    return all(_is_memory_of(machine, part, memory) for part, memory in zip(parts, inner))


def _are_variables(value):
    return isinstance(value, tuple) and all(_is_variable(part) for part in value)


def _is_variable(value):
    return isinstance(value, str) and value != ""


def _is_constant(value):
    return isinstance(value, (bool, int, str))


def _are_branches(value):
    """Tell whether any value is a tuple of pairs, in which a value stands first that comes only once."""
    if not isinstance(value, tuple) or not all(is_tuple(branch, 2, 2) for branch in value):
        return False
    labels = [label for label, _ in value]
    return all(_is_constant(label) for label in labels) and are_different([marked(label) for label in labels])


class Body:
    """What is known where a body stands: the number of cells, and for each part those of its inputs and outputs."""

    def __init__(self, cells, sizes):
        self.cells = cells
        self.sizes = sizes

    def are_statements(self, value):
        """Tell whether any value is a tuple of statements."""
        return isinstance(value, tuple) and all(self.is_statement(part) for part in value)

    def is_statement(self, value):
        """Tell whether any value is a statement."""
        if is_tuple(value, 3, 3):
            word, at, inner = value
            if word == "set":
                return _is_variable(at) and self.is_tree(inner)
            if word == "store":
                return is_whole(at, 0, self.cells - 1) and self.is_tree(inner)
            if word == "case":
                return _is_variable(at) and _are_branches(inner) and all(self.are_statements(row) for _, row in inner)
        if not is_tuple(value, 5, 5) or value[0] != "call":
            return False
        rest = value[1:]
        return self.is_call(*rest)

    def is_call(self, names, k, args, reset):
        """Tell whether any values may stand behind the word call in a statement."""
        if not is_whole(k, 0, len(self.sizes) - 1) or not _are_variables(names) or not isinstance(args, tuple):
            return False
        if (len(args), len(names)) != self.sizes[k]:
            return False
        return all(self.is_tree(arg) for arg in args) and (reset is None or self.is_tree(reset))

    def is_tree(self, value):
        """Tell whether any value is a machine expression."""
        if not isinstance(value, tuple) or not value or not isinstance(value[0], str):
            return False
        word = value[0]
        if word == "const":
            return len(value) == 2 and _is_constant(value[1])
        if word == "var":
            return len(value) == 2 and _is_variable(value[1])
        if word == "cell":
            return len(value) == 2 and is_whole(value[1], 0, self.cells - 1)
        if word == "select":
            return len(value) == 3 and _is_variable(value[1]) and self.is_selection(value[2])
        if word not in PLAIN_PARTS or word in MEMORIES:
            return False
        if word in NUMBERS:
            return len(value) == 4 and is_whole(value[1], 2, MAX_MOD) and all(self.is_tree(part) for part in value[2:])
        return len(value) == PLAIN_PARTS[word] + 1 and all(self.is_tree(part) for part in value[1:])

    def is_selection(self, value):
        """Tell whether any value may stand as the branches of a select."""
        return _are_branches(value) and len(value) > 0 and all(self.is_tree(part) for _, part in value)
