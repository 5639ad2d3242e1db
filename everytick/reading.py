"""Reading expressions ([1.10], [1.11])."""

from everytick.errors import BadText
from everytick.programs import MAX_DEPTH, MAX_MOD, are_labels, is_great, is_small
from everytick.signs import Signs
from everytick.strengths import ATOM, IF, INFIX, NOT, PRE, WHEN, infix_word

MAX_INSIDE = 40


def read_expression(sorts, text):
    """Return the expression of a text; raise BadText(1) if it is none."""
    signs = Signs(text, 1, sorts)
    expression = expression_from(signs)
    signs.finish()
    return expression


def expression_from(signs):
    """Take an expression of any strength from the signs of a line."""
    return _tree(signs, IF, 1, 0)[0]


def _tree(signs, least, level, inside):
    """Take a tree of at least this strength, and return it with its depth.

    It stands at this level of the whole tree, or below, and in so many parentheses, if and merge. Both are
    bounded on the way down: a line may be longer than Python could follow.
    """
    signs.require(level <= MAX_DEPTH and inside <= MAX_INSIDE)
    tree, depth, strength = _first(signs, least, level, inside)
    while True:
        signs.require(depth <= MAX_DEPTH)
        word = infix_word(signs.look())
        if signs.look() == "when" and WHEN >= least and strength >= WHEN:
            signs.take()
            tree = _sampled(signs, tree)
            depth, strength = depth + 1, WHEN
        elif word is not None and INFIX[word][1] >= least and strength >= INFIX[word][2]:
            signs.take()
            right, right_depth = _tree(signs, INFIX[word][3], level + 1, inside)
            tree = (word, tree, right)
            depth, strength = max(depth, right_depth) + 1, INFIX[word][1]
        else:
            return tree, depth


def _first(signs, least, level, inside):
    """Take a tree that does not begin with a part of its own; return it, its depth and its strength."""
    sign = signs.look()
    if sign == "(":
        signs.take()
        tree, depth = _tree(signs, IF, level, inside + 1)
        signs.need(")")
        return tree, depth, ATOM
    if sign == "if":
        signs.require(least <= IF)
        return _choice(signs, level, inside)
    if sign == "not":
        signs.require(least <= NOT)
        return _prefixed(signs, NOT, level, inside)
    if sign == "pre":
        return _prefixed(signs, PRE, level, inside)
    if sign == "merge":
        return _merged(signs, level, inside)
    return _leaf(signs), 1, ATOM


def _prefixed(signs, strength, level, inside):
    word = signs.take()
    part, depth = _tree(signs, strength, level + 1, inside)
    return (word, part), depth + 1, strength


def _choice(signs, level, inside):
    parts = []
    depths = []
    for word in ("if", "then", "else"):
        signs.need(word)
        part, depth = _tree(signs, IF, level + 1, inside + 1)
        parts.append(part)
        depths.append(depth)
    return ("if", *parts), max(depths) + 1, IF


def _merged(signs, level, inside):
    signs.need("merge")
    name = signs.small()
    branches = []
    depths = []
    while signs.look() == "(":
        signs.take()
        label = signs.label()
        signs.need("->")
        part, depth = _tree(signs, IF, level + 1, inside + 1)
        signs.need(")")
        branches.append((label, part))
        depths.append(depth)
    signs.require(are_labels([label for label, _ in branches]))
    return ("merge", name, tuple(branches)), max(depths) + 1, ATOM


def _sampled(signs, part):
    """Take what stands behind the word when, and return the tree over its part."""
    if signs.look() == "not":
        signs.take()
        return ("when", part, signs.small(), False)
    name = signs.small()
    if signs.look() != "is":
        return ("when", part, name, True)
    signs.take()
    label = signs.label()
    signs.require(not isinstance(label, bool))
    return ("when", part, name, label)


def _leaf(signs):
    sign = signs.look()
    if sign == "true" or sign == "false":
        return ("const", signs.take() == "true", "bool")
    if is_small(sign):
        return ("var", signs.take())
    if is_great(sign):
        return _constructor(signs)
    value = signs.number()
    signs.need(":")
    modulus = signs.number()
    signs.require(2 <= modulus <= MAX_MOD and value < modulus)
    return ("const", value, ("mod", modulus))


def _constructor(signs):
    sign = signs.take()
    for name, constructors in signs.sorts:
        if sign in constructors:
            return ("const", sign, ("sort", name))
    raise BadText(signs.line)
