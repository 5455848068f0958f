"""The calls: each takes whole numbers and lists of them, and answers a list of whole numbers."""

from stackback.cutting import all_parts, exchanged, told_parts
from stackback.folding import folded
from stackback.grammar import expression_of
from stackback.measuring import measures_of
from stackback.nodes import DEEPEST, HIGHEST
from stackback.printing import nesting_of, printed
from stackback.recovering import simple_expression_of
from stackback.refusals import CodeTooDeep, CodeTooLong, NoPart, Refusal, TextTooHigh, TextTooLong, WrongParameterCount
from stackback.writing import code_of, joined

MOST_PARAMETERS = 8
LONGEST_CODE = 500
LONGEST_TEXT = 2000


def check_parameters(n):
    if not 0 <= n <= MOST_PARAMETERS:
        raise WrongParameterCount()


def check_length(numbers):
    if len(numbers) > LONGEST_CODE:
        raise CodeTooLong()


def check_depth(node):
    # The height goes first: only what is not too high may be gone through by calls.
    if node.height > HIGHEST or nesting_of(node) > DEEPEST:
        raise CodeTooDeep()


def taken_code(n, numbers):
    """The simple expression of a code, unless the code is refused."""
    check_length(numbers)
    node = simple_expression_of(numbers, n)
    check_depth(node)
    return node


def taken_text(n, signs):
    """The code of a text, unless the text is refused."""
    if len(signs) > LONGEST_TEXT:
        raise TextTooLong()
    node = expression_of(signs)
    if node.height > HIGHEST:
        raise TextTooHigh()
    numbers = code_of(node, n)
    check_length(numbers)
    return numbers


def done(row):
    """The answer of a call that is done and tells a text or a code."""
    return [0, len(row)] + row


def tree(n, code):
    """The simple expression of a code, printed."""
    try:
        check_parameters(n)
        return done(printed(taken_code(n, code)))
    except Refusal as refusal:
        return [refusal.number]


def code(n, text):
    """The code of a text."""
    try:
        check_parameters(n)
        return done(taken_text(n, text))
    except Refusal as refusal:
        return [refusal.number]


def fold(n, code):
    """The code of a code's simple expression when that is folded."""
    try:
        check_parameters(n)
        return done(code_of(folded(taken_code(n, code)), n))
    except Refusal as refusal:
        return [refusal.number]


def measure(n, code):
    """Five numbers that are measured of a code's simple expression."""
    try:
        check_parameters(n)
        return [0] + measures_of(taken_code(n, code), n)
    except Refusal as refusal:
        return [refusal.number]


def canon(n, text):
    """The simple expression of a text's code, printed."""
    try:
        check_parameters(n)
        # No check of its height: the simple expression is never higher than the text.
        return done(printed(simple_expression_of(taken_text(n, text), n)))
    except Refusal as refusal:
        return [refusal.number]


def same(n, text, other):
    """Whether two texts have the same code."""
    try:
        check_parameters(n)
        first = taken_text(n, text)
        second = taken_text(n, other)
        return [0, 1 if first == second else 0]
    except Refusal as refusal:
        return [refusal.number]


def parts(n, code):
    """All parts of a code's simple expression, four numbers for each."""
    try:
        check_parameters(n)
        rows = told_parts(taken_code(n, code), n)
        return [0, len(rows)] + joined(rows)
    except Refusal as refusal:
        return [refusal.number]


def put(n, i, code, other):
    """The code of a code's simple expression when its part number i is replaced by another code's."""
    try:
        check_parameters(n)
        first = taken_code(n, code)
        second = taken_code(n, other)
        if not 0 <= i < len(all_parts(first)):
            raise NoPart()
        whole = exchanged(first, i, second)
        check_depth(whole)
        numbers = code_of(whole, n)
        check_length(numbers)
        return done(numbers)
    except Refusal as refusal:
        return [refusal.number]
