"""The lines of a text of several lines ([1.11])."""

from everytick.errors import BadText
from everytick.signs import Signs


class Lines:
    """The lines of a text, taken one by one as signs. Empty lines are passed over, but they count."""

    def __init__(self, text, sorts):
        rows = text.split("\n")
        self.sorts = sorts
        self.behind = len(rows) + 1
        self.rows = [(k + 1, rows[k]) for k in range(len(rows)) if rows[k].strip(" ") != ""]
        self.at = 0

    def left(self):
        """Tell whether a line is left."""
        return self.at < len(self.rows)

    def word(self):
        """Return the first sign of the next line without taking it, an empty text if no line is left."""
        if not self.left():
            return ""
        line, text = self.rows[self.at]
        return Signs(text, line, self.sorts).look()

    def take(self):
        """Take the next line; raise BadText if none is left."""
        if not self.left():
            raise BadText(self.behind)
        line, text = self.rows[self.at]
        self.at += 1
        return Signs(text, line, self.sorts)

    def know(self, sort):
        """From here on the lines may use this sort, too."""
        self.sorts = (*self.sorts, sort)

    def finish(self):
        """Make sure that no line is left."""
        if self.left():
            raise BadText(self.rows[self.at][0])
