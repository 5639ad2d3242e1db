"""Values and rows as texts ([12.2])."""

from everytick.errors import BadText
from everytick.printing import print_label
from everytick.programs import values_of


def print_value(value):
    """Return the text of a value."""
    return print_label(value)


def print_row(row):
    """Return the text of a row."""
    if not row:
        return "-"
    return " ".join([print_value(value) for value in row])


def print_rows(rows):
    """Return the text of some rows."""
    return " ; ".join([print_row(row) for row in rows])


def read_row(sorts, kinds, text):
    """Return the row of a text with values of some kinds; raise BadText(1) if it is none."""
    words = [] if text == "-" else text.split(" ")
    if len(words) != len(kinds):
        raise BadText(1)
    return tuple([_value_of(sorts, kind, word) for kind, word in zip(kinds, words)])


def _value_of(sorts, kind, word):
    """Return the value of a kind that is written so; raise BadText(1) if there is none."""
    for value in values_of(sorts, kind):
        if print_value(value) == word:
            return value
    raise BadText(1)


def read_rows(sorts, kinds, text):
    """Return the tuple of the rows of a text; raise BadText(1) if it is none."""
    if text == "":
        return ()
    return tuple([read_row(sorts, kinds, part) for part in text.split(" ; ")])
