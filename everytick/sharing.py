"""Variables that are alike, and programs with one of them in the place of all ([7.7] to [7.10])."""

from everytick.clocks import clocks_of
from everytick.kinds import kinds_in
from everytick.printing import print_equation, print_kind, print_label
from everytick.programs import node_named
from everytick.uses import renamed_right


def alike(program, name):
    """Return the ascending tuple of the ascending tuples of the variables of a node that are alike."""
    numbers = _numbers(program, name)
    found = {}
    for x in sorted(numbers):
        found.setdefault(numbers[x], []).append(x)
    return tuple(sorted([tuple(row) for row in found.values()]))


def _is_copy(equation):
    return equation[1][0] == "var"


def _sources(node):
    """Return a dict from the variables of a node to their sources."""
    copies = {equation[0][0]: equation[1][1] for equation in node[4] if _is_copy(equation)}
    found = {}
    for x, _ in (*node[1], *node[2], *node[3]):
        source = x
        while source in copies:
            source = copies[source]
        found[x] = source
    return found


def _numbers(program, name):
    """Return a dict from the variables of a node to numbers, which are the same for those that are alike.

    At first all sources count as alike, but the inputs. Those that are told apart by what they are made of get
    other numbers, until there is nothing more to tell apart.
    """
    node = node_named(program, name)
    sources = _sources(node)
    looks = _looks(program, node)
    numbers = {x: 0 for x in sources}
    many = 0
    while len(set(list(numbers.values()))) > many:
        many = len(set(list(numbers.values())))
        numbers = _refined(sources, looks, numbers)
    return numbers


def _looks(program, node):
    """Return a dict from the variables of a node, inputs left out, to what they are made of.

    That is a text with the kind and the index on the left side, the right side, and the clock.
    """
    kinds = kinds_in(node)
    clocks = dict(clocks_of(program, node[0]))
    found = {}
    for names, right in node[4]:
        for k, x in enumerate(names):
            found[x] = (f"{k} {print_kind(kinds[x])}", right, clocks[x])
    return found


def _refined(sources, looks, numbers):
    """Return further numbers, by which sources differ that are made of sources with different numbers."""
    groups = {x: f"v{numbers[x]}" for x in numbers}
    texts = {}
    found = {}
    for x in sources:
        source = sources[x]
        text = source
        if source in looks:
            head, right, clock = looks[source]
            made = print_equation((("",), renamed_right(groups, right)))
            pairs = [f"{groups[y]} {print_label(v)}" for y, v in clock]
            text = " ".join([groups[source], head, made, *pairs])
        found[x] = texts.setdefault(text, len(texts))
    return found


def shared(program):
    """Return the shared form of a program."""
    return (program[0], tuple([_shared_node(program, node) for node in program[1]]), program[2])


def _chosen(node, numbers):
    """Return a dict from the variables of a node to the chosen ones that are alike: no copy is ever chosen."""
    leaders = {}
    for x, _ in node[1]:
        leaders[numbers[x]] = x
    for equation in node[4]:
        if not _is_copy(equation):
            for x in equation[0]:
                leaders.setdefault(numbers[x], x)
    return {x: leaders[numbers[x]] for x in numbers}


def _shared_node(program, node):
    chosen = _chosen(node, _numbers(program, node[0]))
    outputs = [x for x, _ in node[2]]
    body = []
    for names, right in node[4]:
        if chosen[names[0]] == names[0]:
            body.append((names, renamed_right(chosen, right)))
        else:
            body.extend([((x,), ("var", chosen[x])) for x in names if x in outputs])
    rest = [(x, kind) for x, kind in node[3] if chosen[x] == x]
    return (*node[:3], tuple(rest), tuple(body))
