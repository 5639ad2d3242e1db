"""The errors that everytick raises ([0.5])."""


class TickError(ValueError):
    """Any error of everytick."""


class BadText(TickError):
    """A text cannot be read; line is the number of the line that tells why, from 1 on."""

    def __init__(self, line):
        super().__init__(f"line {line} cannot be read")
        self.line = line


class NotAllowed(TickError):
    """Something is asked for that the document does not allow."""


class TooMany(TickError):
    """There are more rows or states than the caller or the document allows."""
