"""An expression cut into its parts, and one of them exchanged.

Only expressions that are not too high come here, so that calls within one
another go no deeper than their height.
"""

from stackback.nodes import Node
from stackback.writing import own_instructions


def all_parts(node):
    """An expression, its parts, their parts and so on, each before its own parts."""
    found = [node]
    for part in node.parts:
        found.extend(all_parts(part))
    return found


def told_parts(node, n):
    """Of each of all parts its form, where its code begins, how many instructions it has, and its height.

    Where a code begins is counted from the first instruction of this expression.
    """
    below = [told_parts(part, n) for part in node.parts]
    sizes = [rows[0][2] for rows in below]
    own = own_instructions(node, sizes, n)
    told = []
    begin = 0
    for before, rows, whole in zip(own, below, sizes):
        begin += len(before)
        told.extend([(form, begin + start, size, height) for form, start, size, height in rows])
        begin += whole
    return [(node.form, 0, begin + len(own[-1]), node.height)] + told


def exchanged(node, number, other):
    """An expression with another in the place of one part; the number is its place in all_parts.

    With a number outside of all_parts nothing is exchanged.
    """
    if number == 0:
        return other
    left = number - 1
    parts = []
    for part in node.parts:
        parts.append(exchanged(part, left, other))
        left -= len(all_parts(part))
    return Node(node.form, node.detail, parts)
