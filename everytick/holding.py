"""What instances hold from one instant to the next, each kept once ([4.2], [8.4]).

An instance may have very many instances in it, and most of them hold the same. So there is one object for equal ones,
and what is done with it need not be done again wherever it stands.
"""

from everytick.exact import key_of


class Held:
    """What an instance holds: its cells, in parts what the instances in it hold, and in tree all of this as tuples.

    The attribute parts is None until somebody needs them.
    """

    def __init__(self, cells, parts, tree):
        self.cells = cells
        self.parts = parts
        self.tree = tree


class Pool:
    """All that the instances of one node hold; pools has, for each instance in such a one, the pool of its node.

    For step machines, the memories of one class, and the pools of its parts.
    """

    def __init__(self, pools):
        self.pools = tuple(pools)
        self.found = {}

    def held_of(self, cells, parts):
        """Return the one object that holds a tuple of cells and a tuple of objects for the parts."""
        key = (key_of(cells), parts)
        if key not in self.found:
            self.found[key] = Held(cells, parts, (cells, tuple([part.tree for part in parts])))
        return self.found[key]

    def entered(self, tree):
        """Return the one object that holds what a tree tells."""
        cells, inner = tree
        return self.held_of(cells, tuple([pool.entered(part) for pool, part in zip(self.pools, inner)]))

    def opened(self, tree):
        """Return a further object that holds what a tree tells.

        Nothing in the tree is gone through that is not needed later. But there may be other objects that hold the same.
        """
        return Held(tree[0], None, tree)

    def inner_of(self, held):
        """Return the tuple of the parts of an object of this pool."""
        if held.parts is None:
            held.parts = tuple([pool.opened(part) for pool, part in zip(self.pools, held.tree[1])])
        return held.parts
