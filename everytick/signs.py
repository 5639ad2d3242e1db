"""The signs of one line of a text: words, names, digits, and the marks between them ([1.11])."""

from everytick.errors import BadText
from everytick.programs import DIGITS, LETTERS, MAX_MOD, is_great, is_small

DOUBLE_MARKS = ("->", "<>", "<=")
MARKS = "()=<+-*:,|"


class Signs:
    """The signs of a line, taken one by one; whatever does not fit raises BadText with the line's number."""

    def __init__(self, text, line, sorts):
        self.line = line
        self.sorts = sorts
        self.row = _cut(text, line)
        self.at = 0

    def look(self, ahead=0):
        """Return the next sign, or one further ahead, without taking it; an empty text behind the last one."""
        at = self.at + ahead
        if at < len(self.row):
            return self.row[at]
        return ""

    def take(self):
        """Take the next sign."""
        sign = self.look()
        self.at += 1
        return sign

    def require(self, condition):
        """Go on only if the condition holds."""
        if not condition:
            raise BadText(self.line)

    def need(self, sign):
        """Take the next sign, which has to be this one."""
        self.require(self.take() == sign)

    def finish(self):
        """Make sure that no sign is left."""
        self.require(self.look() == "")

    def small(self):
        """Take a small name."""
        name = self.take()
        self.require(is_small(name))
        return name

    def great(self):
        """Take a great name."""
        name = self.take()
        self.require(is_great(name))
        return name

    def number(self):
        """Take a number of at most two digits without leading zeros: no bound in a text is greater."""
        digits = self.take()
        self.require(digits != "" and all(sign in DIGITS for sign in digits))
        self.require(len(digits) <= len(str(MAX_MOD)) and str(int(digits)) == digits)
        return int(digits)

    def label(self):
        """Take a value as it stands ahead of the branches of a merge."""
        sign = self.look()
        if sign == "true" or sign == "false":
            return self.take() == "true"
        if is_great(sign):
            return self.take()
        number = self.number()
        self.require(number < MAX_MOD)
        return number


def _cut(text, line):
    found = []
    at = 0
    while at < len(text):
        length = _length_at(text, at)
        if length == 0:
            raise BadText(line)
        if text[at] != " ":
            found.append(text[at:at + length])
        at += length
    return found


def _length_at(text, at):
    """Return the length of the sign or space that begins at an index of a text, 0 if there is none."""
    if text[at:at + 2] in DOUBLE_MARKS:
        return 2
    if text[at] == " " or text[at] in MARKS:
        return 1
    end = at
    while end < len(text) and text[end] in LETTERS:
        end += 1
    return end - at
