"""An expression's code.

Only expressions that are not too high come here, so that calls within one
another go no deeper than their height.
"""

from stackback.names import bare_name_instruction, called_name_instruction
from stackback.nodes import AND, IF, NAME, NUMBER, ONE, OR, PICK, TWO


def instructions_of(node, n):
    """The instructions of an expression with n parameters; refuses wrong names."""
    if node.form == NUMBER:
        return [(0, node.detail[0], node.detail[1])]
    if node.form == NAME:
        return [bare_name_instruction(node.detail, n)]
    parts = [instructions_of(part, n) for part in node.parts]
    if node.form == AND:
        return parts[0] + [(6, len(parts[1]) + 2)] + parts[1] + [(9,), (5, 1), (0, 0, 1)]
    if node.form == OR:
        return parts[0] + [(6, 2), (0, 1, 1), (5, len(parts[1]) + 1)] + parts[1] + [(9,)]
    if node.form == IF:
        return parts[0] + [(6, len(parts[1]) + 1)] + parts[1] + [(5, len(parts[2]))] + parts[2]
    return joined(parts) + last_instructions(node)


def last_instructions(node):
    """What stands behind the parts' codes."""
    if node.form == ONE:
        return [(3, node.detail)]
    if node.form == TWO:
        return [(4, node.detail)]
    if node.form == PICK:
        return [(10, node.detail) for part in node.parts[1:]]
    return [called_name_instruction(node.detail, len(node.parts))]


def joined(rows):
    """One list of all that the rows hold, row after row."""
    whole = []
    for row in rows:
        whole.extend(row)
    return whole


def code_of(node, n):
    """The numbers of an expression's code."""
    return joined(instructions_of(node, n))
