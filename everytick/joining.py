"""Joining and dropping statements of step machines ([8.7], [8.8])."""

from everytick.programs import marked
from everytick.reads import called_in, reads_in, renumbered


def joined(machine, kinds):
    """Return a machine with all bodies joined; kinds tells for each class the values of its variables."""
    return tuple([(*row[:5], _joined_body(row[5], kinds[row[0]])) for row in machine])


def _joined_body(body, values):
    """Return a body joined; values is a dict from the variables to the values of their kinds, in order."""
    found = []
    for statement in body:
        if statement[0] == "case":
            branches = [(v, _joined_body(inner, values)) for v, inner in statement[2]]
            statement = ("case", statement[1], tuple(branches))
            if not _is_empty(statement):
                _put_behind(found, statement, values)
        else:
            found.append(statement)
    return tuple(found)


def _is_empty(case):
    """Tell whether all bodies of a case are empty."""
    return not any(inner for _, inner in case[2])


def _put_behind(found, case, values):
    """Put a case behind some statements, or into the last one if it is a case of the same variable."""
    if found and found[-1][0] == "case" and found[-1][1] == case[1]:
        case = _one_of_two(found.pop(), case, values)
    found.append(case)


def _one_of_two(one, other, values):
    """Return the case that does what two cases of the same variable do, one behind the other."""
    x = one[1]
    bodies = {marked(v): [] for v in values.get(x, ())}
    given = {}
    for v, inner in (*one[2], *other[2]):
        bodies.setdefault(marked(v), []).extend(inner)
        given[marked(v)] = True
    branches = [(key[1], _joined_body(bodies[key], values)) for key in bodies if key in given]
    return ("case", x, tuple(branches))


def dropped(machine):
    """Return a machine without what does nothing for its outputs."""
    return _without_unused([_dropped_class(row) for row in machine])


def _dropped_class(row):
    """Return a class without what it does not need; the numbers of its cells and parts have moved up."""
    name, inputs, outputs, cells, parts, body = row
    before = None
    while body != before:
        before = body
        body = _dropped_body(body, _wanted(body, outputs))
    read = reads_in(body)
    called = called_in(body)
    kept = [k for k in range(len(cells)) if k in read]
    still = [k for k in range(len(parts)) if k in called]
    body = renumbered(body, _places(kept), _places(still))
    return (name, inputs, outputs, tuple([cells[k] for k in kept]), tuple([parts[k] for k in still]), body)


def _places(numbers):
    """Return a dict from some numbers to their places in the list of them."""
    return {k: at for at, k in enumerate(numbers)}


def _wanted(body, outputs):
    """Return a dict whose keys are the variables and cells that a body reads, and the outputs."""
    found = reads_in(body)
    for x in outputs:
        found[x] = True
    return found


def _dropped_body(body, wanted):
    """Return a body without the statements that give nothing that is wanted, and without cases emptied by this."""
    found = []
    for statement in body:
        word = statement[0]
        if word == "case":
            branches = tuple([(v, _dropped_body(inner, wanted)) for v, inner in statement[2]])
            whole = ("case", statement[1], branches)
            if whole == statement or not _is_empty(whole):
                found.append(whole)
        elif word == "call":
            if any(x in wanted for x in statement[1]):
                found.append(statement)
        elif statement[1] in wanted:
            found.append(statement)
    return tuple(found)


def _without_unused(classes):
    """Return a machine of those classes that are parts of the last one, directly or by way of others, and of it."""
    used = {len(classes) - 1: True}
    for at in reversed(range(len(classes))):
        if at in used:
            for part in classes[at][4]:
                used[part] = True
    numbers = [at for at in range(len(classes)) if at in used]
    places = _places(numbers)
    found = []
    for at in numbers:
        name, inputs, outputs, cells, parts, body = classes[at]
        found.append((name, inputs, outputs, cells, tuple([places[part] for part in parts]), body))
    return tuple(found)
