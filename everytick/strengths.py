"""How strongly the trees of expressions bind in texts ([1.10])."""

IF = 0
NOT = 5
WHEN = 9
PRE = 10
ATOM = 11

# For each tree with a sign between its two parts: the sign, its strength, the least strengths of its parts.
INFIX = {
    "arrow": ("->", 1, 2, 1),
    "fby": ("fby", 2, 3, 2),
    "or": ("or", 3, 3, 4),
    "xor": ("xor", 3, 3, 4),
    "and": ("and", 4, 4, 5),
    "eq": ("=", 6, 7, 7),
    "ne": ("<>", 6, 7, 7),
    "less": ("<", 6, 7, 7),
    "leq": ("<=", 6, 7, 7),
    "add": ("+", 7, 7, 8),
    "sub": ("-", 7, 7, 8),
    "mul": ("*", 8, 8, 9),
}


def strength_of(word):
    """Return the strength of the trees with a word."""
    if word in INFIX:
        return INFIX[word][1]
    if word == "if":
        return IF
    if word == "not":
        return NOT
    if word == "when":
        return WHEN
    if word == "pre":
        return PRE
    return ATOM


def infix_word(sign):
    """Return the word of the tree that a sign between two parts makes, or None."""
    for word in INFIX:
        if INFIX[word][0] == sign:
            return word
    return None
