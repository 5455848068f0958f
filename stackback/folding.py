"""Expressions folded: what can be worked out of standing numbers is, and what changes nothing is left out.

Only expressions that are not too high come here, so that calls within one
another go no deeper than their height.
"""

from stackback.arithmetic import result_of_one, result_of_pick, result_of_two
from stackback.nodes import AND, CALL, DIVIDE, EQUAL, IF, MINUS, NEGATE, NOT, NUMBER, ONE, OR, PLUS, POWER, TIMES, TWO
from stackback.nodes import Node


def folded(node):
    """An expression folded, its parts before itself."""
    if not node.parts:
        return node
    whole = Node(node.form, node.detail, [folded(part) for part in node.parts])
    if whole.form == CALL:
        return whole
    if whole.form == IF:
        return folded_if(whole)
    if whole.form in (AND, OR):
        return folded_joining(whole)
    values = [standing_value(part) for part in whole.parts]
    if any([value is None for value in values]):
        return without_idle_number(whole)
    result = result_of(whole, values)
    return whole if result is None else standing_number(result)


def standing_value(node):
    """The value of a standing number, or None for any other expression."""
    if node.form == NUMBER:
        return node.detail
    if node.form == ONE and node.detail == NEGATE and node.parts[0].form == NUMBER:
        pair = node.parts[0].detail
        return (-pair[0], pair[1])
    return None


def standing_number(value):
    """The expression that a result becomes."""
    if value[0] < 0:
        return Node(ONE, NEGATE, [Node(NUMBER, (-value[0], value[1]), [])])
    return Node(NUMBER, value, [])


def result_of(node, values):
    """What an expression whose parts have these values gives, or None for an error."""
    if node.form == ONE:
        return result_of_one(node.detail, values[0])
    if node.form == TWO:
        return result_of_two(node.detail, values[0], values[1])
    return result_of_pick(node.detail, values)


def is_whole_number(node, number):
    return node.form == NUMBER and node.detail == (number, 1)


def without_idle_number(node):
    """One of two parts alone, where the other one is a 0 or 1 that changes nothing."""
    if node.form != TWO:
        return node
    left = node.parts[0]
    right = node.parts[1]
    if node.detail in (PLUS, MINUS) and is_whole_number(right, 0):
        return left
    if node.detail == PLUS and is_whole_number(left, 0):
        return right
    if node.detail in (TIMES, DIVIDE, POWER) and is_whole_number(right, 1):
        return left
    if node.detail == TIMES and is_whole_number(left, 1):
        return right
    return node


def folded_if(node):
    value = standing_value(node.parts[0])
    if value is None:
        return node
    return node.parts[1] if value[0] != 0 else node.parts[2]


def folded_joining(node):
    """An and or or, whose left part alone may settle it."""
    value = standing_value(node.parts[0])
    if value is None:
        return node
    if node.form == AND and value[0] == 0:
        return standing_number((0, 1))
    if node.form == OR and value[0] != 0:
        return standing_number((1, 1))
    return folded_to_right(node)


def folded_to_right(node):
    """An and or or that is worth what its right part is: 0 if that is 0, else 1."""
    right = node.parts[1]
    value = standing_value(right)
    if value is not None:
        return standing_number((0, 1) if value[0] == 0 else (1, 1))
    return right if gives_truth(right) else node


def gives_truth(node):
    """Whether an expression by its form gives nothing but 0 and 1."""
    if node.form == ONE:
        return node.detail == NOT
    if node.form == TWO:
        return node.detail >= EQUAL
    return node.form in (AND, OR)
