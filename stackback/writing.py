"""An expression's code.

Only expressions that are not too high come here, so that calls within one
another go no deeper than their height.
"""

from stackback.names import bare_name_instruction, called_name_instruction
from stackback.nodes import AND, IF, NAME, NUMBER, ONE, OR, PICK, TWO


def instructions_of(node, n):
    """The instructions of an expression with n parameters; refuses wrong names."""
    rows = [instructions_of(part, n) for part in node.parts]
    own = own_instructions(node, [len(row) for row in rows], n)
    whole = list(own[0])
    for row, behind in zip(rows, own[1:]):
        whole.extend(row)
        whole.extend(behind)
    return whole


def own_instructions(node, sizes, n):
    """What stands before each part's code, row by row, and in one more row what stands behind the last.

    The sizes tell how many instructions each part has.
    """
    if node.form == AND:
        return [[], [(6, sizes[1] + 2)], [(9,), (5, 1), (0, 0, 1)]]
    if node.form == OR:
        return [[], [(6, 2), (0, 1, 1), (5, sizes[1] + 1)], [(9,)]]
    if node.form == IF:
        return [[], [(6, sizes[1] + 1)], [(5, sizes[2])], []]
    return [[] for part in node.parts] + [last_instructions(node, n)]


def last_instructions(node, n):
    """All that an expression other than and, or, if adds to its parts' codes."""
    if node.form == NUMBER:
        return [(0, node.detail[0], node.detail[1])]
    if node.form == NAME:
        return [bare_name_instruction(node.detail, n)]
    if node.form == ONE:
        return [(3, node.detail)]
    if node.form == TWO:
        return [(4, node.detail)]
    if node.form == PICK:
        return [(10, node.detail) for part in node.parts[1:]]
    return [called_name_instruction(node.detail, len(node.parts))]


def joined(rows):
    """One list of all that the rows hold, row after row."""
    whole = []
    for row in rows:
        whole.extend(row)
    return whole


def code_of(node, n):
    """The numbers of an expression's code."""
    return joined(instructions_of(node, n))
