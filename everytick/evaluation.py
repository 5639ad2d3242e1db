"""The values of lower trees and machine expressions ([4.3], [8.4]).

A frame tells what they hang on: its attribute known is a dict from variables to values, held is the list of what
memories or cells hold. Memories leave in the list later what they need behind the instant.
"""


def are_same(one, other):
    """Tell whether two values are the same: True and 1 are not."""
    return one == other and isinstance(one, bool) == isinstance(other, bool)


def is_number(value):
    """Tell whether a value is an integer, and not a bool."""
    return isinstance(value, int) and not isinstance(value, bool)


def value_of(tree, frame):
    """Return the value of a tree, None for nil."""
    word = tree[0]
    if word == "var":
        return frame.known.get(tree[1])
    if word == "const":
        return tree[1]
    action = ACTIONS[word]
    return action(tree, frame)


def _cell(tree, frame):
    return frame.held[tree[1]]


def _select(tree, frame):
    chooser = frame.known.get(tree[1])
    for value, part in tree[2]:
        if are_same(value, chooser):
            return value_of(part, frame)
    return None


def _choice(tree, frame):
    # Both parts are worked out, whatever the condition is: memories may stand in them.
    condition = value_of(tree[1], frame)
    yes = value_of(tree[2], frame)
    no = value_of(tree[3], frame)
    if condition is True:
        return yes
    if condition is False:
        return no
    return None


def _pre(tree, frame):
    _, k, part = tree
    held = frame.held[k]
    frame.later.append((k, part))
    return held[0] if held else None


def _arrow(tree, frame):
    _, k, first, then = tree
    one = value_of(first, frame)
    other = value_of(then, frame)
    held = frame.held[k]
    frame.held[k] = (None,)
    return other if held else one


def _fby(tree, frame):
    _, k, first, then = tree
    one = value_of(first, frame)
    held = frame.held[k]
    frame.later.append((k, then))
    return held[0] if held else one


def settle(frame):
    """Let the memories that were present hold what they hold behind the instant.

    Parts of memories may have memories in them, so the list may grow on the way. A memory is never read again
    behind this instant's reading of it.
    """
    while frame.later:
        k, part = frame.later.pop()
        frame.held[k] = (value_of(part, frame),)


def _not(tree, frame):
    part = value_of(tree[1], frame)
    return not part if isinstance(part, bool) else None


def _logic(tree, frame):
    word, one, other = tree
    one = value_of(one, frame)
    other = value_of(other, frame)
    if not isinstance(one, bool) or not isinstance(other, bool):
        return None
    if word == "and":
        return one and other
    if word == "or":
        return one or other
    return one != other


def _equality(tree, frame):
    word, one, other = tree
    one = value_of(one, frame)
    other = value_of(other, frame)
    if one is None or other is None:
        return None
    return are_same(one, other) == (word == "eq")


def _order(tree, frame):
    word, one, other = tree
    one = value_of(one, frame)
    other = value_of(other, frame)
    if not is_number(one) or not is_number(other):
        return None
    return one < other if word == "less" else one <= other


def _arithmetic(tree, frame):
    word, modulus, one, other = tree
    one = value_of(one, frame)
    other = value_of(other, frame)
    if not is_number(one) or not is_number(other):
        return None
    if word == "add":
        return (one + other) % modulus
    if word == "sub":
        return (one - other) % modulus
    return one * other % modulus


ACTIONS = {
    "cell": _cell, "select": _select, "if": _choice, "pre": _pre, "arrow": _arrow, "fby": _fby, "not": _not,
    "and": _logic, "or": _logic, "xor": _logic, "eq": _equality, "ne": _equality, "less": _order, "leq": _order,
    "add": _arithmetic, "sub": _arithmetic, "mul": _arithmetic,
}
