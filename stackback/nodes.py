"""Expressions as trees, and what holds of each of their forms."""

# The forms, numbered as the parts of an expression are told.
NUMBER = 0
NAME = 1
ONE = 2
TWO = 3
AND = 4
OR = 5
IF = 6
PICK = 7
CALL = 8

# By the number behind instruction 3, and behind 10.
ONE_WORDS = ("-", "not", "floor", "ceil", "abs", "sign", "num", "den")
PICK_WORDS = ("min", "max")

# By the number behind instruction 4: + - * / // percent ^ = <> < <= > >=
TWO_SIGNS = (
    (43,), (45,), (42,), (47,), (47, 47), (37,), (94,),
    (61,), (60, 62), (60,), (60, 61), (62,), (62, 61),
)

# The numbers behind instruction 3, by name; the last one is den.
NEGATE = 0
NOT = 1
FLOOR = 2
CEIL = 3
ABS = 4
SIGN = 5
NUM = 6

# The numbers behind instruction 4, by name; from EQUAL on they are comparisons, the last one is >=.
PLUS = 0
MINUS = 1
TIMES = 2
DIVIDE = 3
DIVIDE_DOWN = 4
REST = 5
POWER = 6
EQUAL = 7
UNEQUAL = 8
BELOW = 9
AT_MOST = 10
ABOVE = 11

# The numbers behind instruction 10, by name.
LEAST = 0
GREATEST = 1

# Kinds go from 0, the weakest, to this one, which never wants brackets.
STRONGEST = 9
ONE_KINDS = (7, 3, 9, 9, 9, 9, 9, 9)
TWO_KINDS = (5, 5, 6, 6, 6, 6, 8, 4, 4, 4, 4, 4, 4)

# By kind, for each part in order: the weakest kind that stands there without brackets.
PLACES = ((0, 0, 0), (1, 2), (2, 3), (3,), (5, 5), (5, 6), (6, 7), (7,), (9, 7))

# By kind, for each part in order: 1 if the expression's own word or sign stands around it.
AROUND = ((1, 1, 1), (0, 0), (0, 0), (1,), (0, 0), (0, 0), (0, 0), (1,), (0, 1))

HIGHEST = 32
DEEPEST = 32


class Node:
    """An expression.

    The detail is a number's pair, a name's text, or the number behind the
    instructions 3, 4 and 10; other forms have 0 there.
    """

    def __init__(self, form, detail, parts):
        self.form = form
        self.detail = detail
        self.parts = parts
        # Kept here because a tree may be too high to be gone through again by calls.
        self.height = 1 + max([part.height for part in parts], default=0)


def kind_of(form, detail):
    """How strongly an expression of this form holds together."""
    if form == ONE:
        return ONE_KINDS[detail]
    if form == TWO:
        return TWO_KINDS[detail]
    if form == IF:
        return 0
    if form == OR:
        return 1
    if form == AND:
        return 2
    return STRONGEST


def place_of(kind, position):
    """The weakest kind that stands as this part without brackets."""
    if kind == STRONGEST:
        return 0
    return PLACES[kind][position]


def around_of(kind, position):
    """1 if an expression of this kind stands around this part, not counting a part's own brackets."""
    if kind == STRONGEST:
        return 1
    return AROUND[kind][position]
