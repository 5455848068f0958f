"""The refusals: each ends a call, and its number is all that the call answers."""


class Refusal(Exception):
    """What every refusal has: the number that is answered."""

    def __init__(self, number):
        Exception.__init__(self)
        self.number = number


class WrongParameterCount(Refusal):
    """There are not 0 to 8 parameters."""

    def __init__(self):
        Refusal.__init__(self, -1)


class CodeTooLong(Refusal):
    """A code that is handed in, or comes of a text or of an exchange, has too many numbers."""

    def __init__(self):
        Refusal.__init__(self, -2)


class NoCode(Refusal):
    """A row of numbers is the code of no expression."""

    def __init__(self):
        Refusal.__init__(self, -3)


class CodeTooDeep(Refusal):
    """A code's simple expression, or what comes of an exchange, is too high, or too deeply nested when printed."""

    def __init__(self):
        Refusal.__init__(self, -4)


class TextTooLong(Refusal):
    """A text has too many signs."""

    def __init__(self):
        Refusal.__init__(self, -5)


class NoExpression(Refusal):
    """A text has a wrong token, is not as the grammar asks, or is too deeply nested."""

    def __init__(self):
        Refusal.__init__(self, -6)


class TextTooHigh(Refusal):
    """A text's expression is too high."""

    def __init__(self):
        Refusal.__init__(self, -7)


class WrongName(Refusal):
    """A text has a name that is unknown, or one that is used in a wrong way."""

    def __init__(self):
        Refusal.__init__(self, -8)


class NoPart(Refusal):
    """An expression has no part of this number."""

    def __init__(self):
        Refusal.__init__(self, -12)
