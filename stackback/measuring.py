"""What is measured of an expression.

Only expressions that are not too high come here, so that calls within one
another go no deeper than their height.
"""

from stackback.cutting import all_parts
from stackback.nodes import AND, CALL, IF, NAME, OR
from stackback.writing import instructions_of


def measures_of(node, n):
    """How many instructions, the height, how many parts, how many names, and the need."""
    whole = all_parts(node)
    return [len(instructions_of(node, n)), node.height, len(whole), count_of_names(whole), need_of(node)]


def count_of_names(expressions):
    """How many different names are among the expressions, bare or with brackets."""
    names = {}
    for node in expressions:
        if node.form in (NAME, CALL):
            names[node.detail] = True
    return len(names)


def need_of(node):
    """How many numbers lie on the stack at most while an expression is worked out."""
    needs = [need_of(part) for part in node.parts]
    if node.form in (AND, OR, IF):
        return max(needs)
    # The parts before it wait on the stack while one is worked out.
    return max([waiting + need for waiting, need in enumerate(needs)], default=1)
