"""New names that stand nowhere in a program."""


class Names:
    """Makes new names for a program, each one only once."""

    def __init__(self, program):
        self.taken = texts_in(program)
        self.counts = {}

    def fresh(self, word):
        """Return a new name that begins with a word, behind which a number stands."""
        k = self.counts.get(word, 0)
        while f"{word}{k}" in self.taken:
            k += 1
        self.counts[word] = k + 1
        return f"{word}{k}"


def texts_in(value):
    """Return a dict whose keys are all texts that stand anywhere in a value of tuples."""
    found = {}
    rest = [value]
    while rest:
        part = rest.pop()
        if isinstance(part, str):
            found[part] = True
        if isinstance(part, tuple):
            rest.extend(part)
    return found
