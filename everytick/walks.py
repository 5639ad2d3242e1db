"""Going through states in the order in which they are come to."""


class Walk:
    """States in the order in which they are come to, each with the first of the shortest ways to it.

    A way is a tuple of numbers of rows. States are numbers, or tuples of numbers.
    """

    def __init__(self, start):
        self.queue = [start]
        self.steps = {start: None}
        self.at = 0

    def is_over(self):
        """Tell whether all states that were come to have been taken."""
        return self.at == len(self.queue)

    def take(self):
        """Take the next state."""
        self.at += 1
        return self.queue[self.at - 1]

    def come_to(self, state, before, r):
        """Come to a state from another one by row r."""
        if state not in self.steps:
            self.steps[state] = (before, r)
            self.queue.append(state)

    def way_to(self, state, r):
        """Return the way to a state, and on by row r."""
        way = [r]
        step = self.steps[state]
        while step is not None:
            way.append(step[1])
            step = self.steps[step[0]]
        return tuple(way[::-1])
