"""What comes of standing numbers, worked out exactly.

A value is a pair in lowest terms; its numerator is below 0 where the value is.
Where there is an error, None is given back.
"""

from stackback.exact import LARGEST, lowest_terms
from stackback.nodes import ABOVE, ABS, AT_MOST, BELOW, CEIL, DIVIDE, DIVIDE_DOWN, EQUAL, FLOOR, GREATEST, LEAST
from stackback.nodes import MINUS, NEGATE, NOT, NUM, PLUS, REST, SIGN, TIMES, UNEQUAL

HIGHEST_EXPONENT = 64


def is_small(value):
    return abs(value[0]) <= LARGEST and value[1] <= LARGEST


def truth(holds):
    return (1, 1) if holds else (0, 1)


def sign_of(number):
    if number == 0:
        return 0
    return 1 if number > 0 else -1


def order_of(left, right):
    """Below 0, 0 or above 0, as left is below, equal to or above right."""
    return left[0] * right[1] - right[0] * left[1]


def opposite(value):
    return (-value[0], value[1])


def added(left, right):
    return lowest_terms(left[0] * right[1] + right[0] * left[1], left[1] * right[1])


def multiplied(left, right):
    return lowest_terms(left[0] * right[0], left[1] * right[1])


def inverse(value):
    """1 / value, which is not 0."""
    if value[0] < 0:
        return (-value[1], -value[0])
    return (value[1], value[0])


def divided_down(left, right):
    """left / right rounded down; right is not 0."""
    quotient = multiplied(left, inverse(right))
    return (quotient[0] // quotient[1], 1)


def rest_of(left, right):
    """What is left over when left is divided down by right, which is not 0."""
    return added(left, opposite(multiplied(right, divided_down(left, right))))


def multiplied_often(value, times):
    """1 multiplied by value so many times, or None if that is not small."""
    numerator = 1
    denominator = 1
    for step in range(times):
        numerator *= value[0]
        denominator *= value[1]
        # Neither of the two comes closer to 0 again, so what is not small here stays so.
        if not is_small((numerator, denominator)):
            return None
    return (numerator, denominator)


def powered(value, exponent):
    """value ^ exponent, or None for an error."""
    if exponent[1] != 1 or abs(exponent[0]) > HIGHEST_EXPONENT:
        return None
    if exponent[0] >= 0:
        return multiplied_often(value, exponent[0])
    if value[0] == 0:
        return None
    return multiplied_often(inverse(value), -exponent[0])


def result_of_one(operation, value):
    """What instruction 3 gives; there is no error here."""
    if operation == NEGATE:
        return opposite(value)
    if operation == NOT:
        return truth(value[0] == 0)
    if operation == FLOOR:
        return (value[0] // value[1], 1)
    if operation == CEIL:
        return (-(-value[0] // value[1]), 1)
    if operation == ABS:
        return (abs(value[0]), value[1])
    if operation == SIGN:
        return (sign_of(value[0]), 1)
    if operation == NUM:
        return (value[0], 1)
    return (value[1], 1)


def compared(operation, left, right):
    order = order_of(left, right)
    if operation == EQUAL:
        return truth(order == 0)
    if operation == UNEQUAL:
        return truth(order != 0)
    if operation == BELOW:
        return truth(order < 0)
    if operation == AT_MOST:
        return truth(order <= 0)
    if operation == ABOVE:
        return truth(order > 0)
    return truth(order >= 0)


def worked_out(operation, left, right):
    """What + - * / and the like give, small or not, or None for another error."""
    if operation in (DIVIDE, DIVIDE_DOWN, REST) and right[0] == 0:
        return None
    if operation == PLUS:
        return added(left, right)
    if operation == MINUS:
        return added(left, opposite(right))
    if operation == TIMES:
        return multiplied(left, right)
    if operation == DIVIDE:
        return multiplied(left, inverse(right))
    if operation == DIVIDE_DOWN:
        return divided_down(left, right)
    if operation == REST:
        return rest_of(left, right)
    return powered(left, right)


def result_of_two(operation, left, right):
    """What instruction 4 gives, or None for an error."""
    if operation >= EQUAL:
        return compared(operation, left, right)
    value = worked_out(operation, left, right)
    if value is None or not is_small(value):
        return None
    return value


def result_of_pick(operation, values):
    """The least or the greatest of the values; there is no error here."""
    best = values[0]
    for value in values[1:]:
        order = order_of(value, best)
        if operation == LEAST and order < 0 or operation == GREATEST and order > 0:
            best = value
    return best
