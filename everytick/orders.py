"""All ways to choose one value out of each of several rows, in order, and all input rows of a program ([9.1])."""

from everytick.programs import node_named, values_of

MAX_ROWS = 256


def count_of(choices):
    """Return the number of ways to choose one value out of each of some rows."""
    many = 1
    for row in choices:
        many = many * len(row)
    return many


def choice_at(choices, k):
    """Return way k to choose one value out of each of some rows; they are ordered by the first row, then the second.

    So the ways need not be kept all at once: there may be very many.
    """
    found = []
    for row in reversed(choices):
        found.append(row[k % len(row)])
        k = k // len(row)
    return tuple(found[::-1])


def input_choices(program):
    """Return the list of the tuples of the values of the inputs of main."""
    return [values_of(program[0], kind) for _, kind in node_named(program, program[2])[1]]
