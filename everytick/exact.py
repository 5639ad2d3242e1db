"""Comparing any values, where True and 1 are different, and so are False and 0 ([0.4])."""

from everytick.programs import marked


def key_of(value):
    """Return a key for any value, which two values share only if they are the same.

    It lists the lengths of the tuples in the value and what else stands there, from left to right. So it is never
    deeper than two tuples, however deep the value is.
    """
    found = []
    rest = [value]
    while rest:
        part = rest.pop()
        if isinstance(part, tuple):
            found.append((len(part),))
            rest.extend(part)
        else:
            found.append(marked(part))
    return tuple(found)


def are_exact(one, other):
    """Tell whether two values are the same."""
    return one == other and key_of(one) == key_of(other)
