"""Edits of the program of a session, and the nodes in texts of sessions ([12.3])."""

from everytick.errors import BadText, TickError
from everytick.lines import Lines
from everytick.program_texts import node_from, sort_from
from everytick.programs import LETTERS, node_named


class Refused(TickError):
    """A line is answered with a text, and nothing else is done."""

    def __init__(self, answer):
        super().__init__(answer)
        self.answer = answer


def put(program, text):
    """Return the program with the node or the sort of a text."""
    words = _first_words(text)
    heads = [word for word in words if word in ("node", "sort")]
    if text.startswith(" ") or len(heads) != 1 or words[0] != heads[0] or "main" in words:
        raise Refused("bad")
    sorts, nodes, main = program
    try:
        if heads[0] == "sort":
            return (_with_entry(sorts, _sort_of(text)), nodes, main)
        return (sorts, _with_entry(nodes, node_of(sorts, text)), main)
    except BadText as bad:
        raise Refused(f"text {bad.line}")


def _first_words(text):
    """Return the list of the words with which the lines of a text begin that are not empty."""
    found = []
    for line in text.split(";"):
        rest = line.lstrip(" ")
        if rest != "":
            found.append(_first_word(rest))
    return found


def _first_word(text):
    end = 0
    while end < len(text) and text[end] in LETTERS:
        end += 1
    return text[:end]


def _sort_of(text):
    """Return the sort of a text; whether it goes with the other sorts of the program shows in the new program."""
    lines = Lines(_with_newlines(text), ())
    sort = sort_from(lines.take())
    lines.finish()
    return sort


def node_of(sorts, text):
    """Return the node of a text, by the sorts of a program; raise BadText if it is none."""
    lines = Lines(_with_newlines(text), sorts)
    node = node_from(lines, True)
    lines.finish()
    return node


def _with_newlines(text):
    return text.replace(";", "\n")


def _with_entry(entries, entry):
    """Return some nodes or sorts with one in the place of that with its name, or behind all others."""
    names = [row[0] for row in entries]
    if entry[0] not in names:
        return (*entries, entry)
    at = names.index(entry[0])
    return (*entries[:at], entry, *entries[at + 1:])


def drop(program, name):
    """Return the program without the node or the sort with a name."""
    sorts, nodes, main = program
    left = [row for row in sorts if row[0] != name]
    others = [row for row in nodes if row[0] != name]
    if (len(left), len(others)) == (len(sorts), len(nodes)):
        raise Refused("none")
    return (tuple(left), tuple(others), main)


def choose_main(program, name):
    """Return the program with the node with a name as its main node."""
    if node_named(program, name) is None:
        raise Refused("none")
    return (*program[:2], name)


EDITS = {"put": put, "drop": drop, "main": choose_main}


def edited(word, program, rest):
    """Return what an edit makes of a program, given by its first word and what stands behind it and a space."""
    if rest is None or rest == "" or (word != "put" and " " in rest):
        raise Refused("bad")
    action = EDITS[word]
    return action(program, rest)
