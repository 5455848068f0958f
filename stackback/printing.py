"""Expressions printed with as few brackets as can be.

Only expressions that are not too high come here, so that calls within one
another go no deeper than their height.
"""

from stackback.nodes import AND, IF, NAME, NUMBER, ONE, ONE_WORDS, OR, PICK, PICK_WORDS, STRONGEST, TWO_SIGNS
from stackback.nodes import around_of, kind_of, place_of

OPENING = 40
CLOSING = 41
BLANK = 32


def signs_of(text):
    """A text of Python as the list of its signs."""
    return [ord(sign) for sign in text]


def wants_brackets(node, position):
    """Whether the part at this position is weaker than its place wants."""
    part = node.parts[position]
    return kind_of(part.form, part.detail) < place_of(kind_of(node.form, node.detail), position)


def nesting_of(node):
    """How many stand around one another, at most, where an expression is printed."""
    kind = kind_of(node.form, node.detail)
    deepest = 0
    for position, part in enumerate(node.parts):
        depth = around_of(kind, position) + nesting_of(part)
        if wants_brackets(node, position):
            depth += 1
        deepest = max(deepest, depth)
    return deepest


def printed(node):
    """The signs of an expression."""
    if node.form == NUMBER:
        return printed_number(node.detail)
    if node.form == NAME:
        return signs_of(node.detail)
    parts = [printed_part(node, position) for position in range(len(node.parts))]
    if node.form == IF:
        return signs_of("if ") + parts[0] + signs_of(" then ") + parts[1] + signs_of(" else ") + parts[2]
    if kind_of(node.form, node.detail) == STRONGEST:
        return signs_of(word_of(node)) + [OPENING] + with_commas(parts) + [CLOSING]
    if node.form == ONE:
        return printed_before(node.detail) + parts[0]
    return parts[0] + [BLANK] + joining_signs(node) + [BLANK] + parts[1]


def printed_part(node, position):
    signs = printed(node.parts[position])
    if wants_brackets(node, position):
        return [OPENING] + signs + [CLOSING]
    return signs


def printed_number(pair):
    if pair[1] == 1:
        return signs_of(str(pair[0]))
    return signs_of(str(pair[0]) + ":" + str(pair[1]))


def word_of(node):
    """What stands right before the brackets around an expression's parts."""
    if node.form == ONE:
        return ONE_WORDS[node.detail]
    if node.form == PICK:
        return PICK_WORDS[node.detail]
    return node.detail


def printed_before(detail):
    """What stands before the one part of - or not."""
    word = ONE_WORDS[detail]
    return signs_of(word + " " if word == "not" else word)


def joining_signs(node):
    if node.form == AND:
        return signs_of("and")
    if node.form == OR:
        return signs_of("or")
    return list(TWO_SIGNS[node.detail])


def with_commas(parts):
    signs = list(parts[0])
    for part in parts[1:]:
        signs = signs + signs_of(", ") + part
    return signs
