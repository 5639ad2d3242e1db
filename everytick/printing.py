"""The texts of kinds, expressions and programs ([1.9], [1.10])."""

from everytick.strengths import IF, INFIX, NOT, PRE, WHEN, strength_of


def print_kind(kind):
    """Return the text of a kind."""
    if kind == "bool":
        return "bool"
    if kind[0] == "mod":
        return f"mod {kind[1]}"
    return kind[1]


def print_expression(expression):
    """Return the text of an expression, with no parentheses but those that it needs."""
    word = expression[0]
    if word in INFIX:
        sign, _, left, right = INFIX[word]
        return f"{_print_part(expression[1], left)} {sign} {_print_part(expression[2], right)}"
    if word == "if":
        condition, yes, no = [_print_part(part, IF) for part in expression[1:]]
        return f"if {condition} then {yes} else {no}"
    if word == "not":
        return f"not {_print_part(expression[1], NOT)}"
    if word == "pre":
        return f"pre {_print_part(expression[1], PRE)}"
    if word == "when":
        return _print_when(expression)
    if word == "merge":
        return _print_merge(expression)
    if word == "const":
        return _print_constant(expression[1], expression[2])
    return expression[1]


def _print_part(expression, least):
    text = print_expression(expression)
    if strength_of(expression[0]) < least:
        return f"({text})"
    return text


def _print_when(expression):
    _, part, name, label = expression
    text = _print_part(part, WHEN)
    if label is True:
        return f"{text} when {name}"
    if label is False:
        return f"{text} when not {name}"
    return f"{text} when {name} is {print_label(label)}"


def _print_merge(expression):
    texts = [f"({print_label(label)} -> {print_expression(part)})" for label, part in expression[2]]
    return " ".join([f"merge {expression[1]}", *texts])


def print_label(label):
    """Return the text of a value, as it stands ahead of the branches of a merge."""
    if label is True:
        return "true"
    if label is False:
        return "false"
    return str(label)


def _print_constant(value, kind):
    if kind[0] == "mod":
        return f"{value}:{kind[1]}"
    return print_label(value)


def print_program(program):
    """Return the text of a program, without a newline at its end."""
    sorts, nodes, main = program
    lines = [print_sort(sort) for sort in sorts]
    for node in nodes:
        lines.extend(print_node(node))
    lines.append(f"main {main}")
    return "\n".join(lines)


def print_sort(sort):
    """Return the line of a sort."""
    name, constructors = sort
    row = " | ".join(constructors)
    return f"sort {name} = {row}"


def print_node(node):
    """Return the list of the lines of a node."""
    name, inputs, outputs, rest, body = node
    lines = [f"node {name}({_print_declared(inputs)}) -> ({_print_declared(outputs)})"]
    if rest:
        lines.append(f"var {_print_declared(rest)}")
    for entry in body:
        if entry[0] == "states":
            lines.extend(_print_block(entry))
        else:
            lines.append(print_equation(entry))
    lines.append("end")
    return lines


def _print_declared(pairs):
    return ", ".join([f"{name}: {print_kind(kind)}" for name, kind in pairs])


def print_equation(equation):
    """Return the line of an equation."""
    names, right = equation
    left = ", ".join(names)
    if len(names) > 1:
        left = f"({left})"
    if right[0] == "call":
        return f"{left} = {_print_call(right)}"
    return f"{left} = {print_expression(right)}"


def _print_call(call):
    _, name, args, reset = call
    texts = ", ".join([print_expression(arg) for arg in args])
    if reset is None:
        return f"{name}({texts})"
    return f"{name}({texts}) every {print_expression(reset)}"


def _print_block(block):
    lines = ["states"]
    for name, equations, unless, until in block[1]:
        lines.append(f"state {name}")
        lines.extend([_print_transition("unless", row) for row in unless])
        lines.extend([print_equation(equation) for equation in equations])
        lines.extend([_print_transition("until", row) for row in until])
    lines.append("end")
    return lines


def _print_transition(place, transition):
    condition, word, name = transition
    return f"{place} {print_expression(condition)} {word} {name}"
