"""A text cut into its tokens.

A token is a pair: "number" and its pair, "name" and its text, "word" and its
text, "two" and the number of a sign that joins two, "mark" and its sign, and
behind the last "end" with an empty text.
"""

from stackback.exact import LARGEST, lowest_terms
from stackback.nodes import TWO_SIGNS
from stackback.refusals import NoExpression

BLANKS = (32, 9, 10, 13)
MARKS = {40: "(", 41: ")", 44: ","}
POINT = 46
COLON = 58
UNDERSCORE = 95
SMALL_LETTERS = "abcdefghijklmnopqrstuvwxyz"
LONGEST_NAME = 24

WORDS = (
    "and", "or", "not", "if", "then", "else", "floor", "ceil", "abs", "sign", "num", "den", "min", "max",
)


def is_digit(sign):
    return 48 <= sign <= 57


def is_letter(sign):
    return 65 <= sign <= 90 or 97 <= sign <= 122


def is_name_sign(sign):
    return is_letter(sign) or is_digit(sign) or sign == UNDERSCORE


def name_sign_text(sign):
    """A sign of a name as a text."""
    if is_digit(sign):
        return str(sign - 48)
    if sign == UNDERSCORE:
        return "_"
    if sign >= 97:
        return SMALL_LETTERS[sign - 97]
    return SMALL_LETTERS[sign - 65].upper()


class Scanner:
    """Goes along the signs of a text and gathers tokens."""

    def __init__(self, signs):
        self.signs = signs
        self.at = 0
        self.tokens = []

    def peek(self, ahead):
        """The sign so many places ahead; behind the end one that fits nowhere."""
        place = self.at + ahead
        if place < len(self.signs):
            return self.signs[place]
        return -1

    def scan_token(self):
        """Goes over a blank or a token."""
        sign = self.peek(0)
        if sign in BLANKS:
            self.at += 1
        elif is_digit(sign):
            self.scan_number()
        elif is_letter(sign):
            self.scan_name()
        else:
            self.scan_sign()

    def digits_behind(self, sign):
        """Whether this sign stands here with a digit right behind it."""
        return self.peek(0) == sign and is_digit(self.peek(1))

    def take_digits(self, number):
        """Goes over digits, which are written behind those of number."""
        while is_digit(self.peek(0)):
            number = number * 10 + self.peek(0) - 48
            self.at += 1
        return number

    def take_decimals(self, whole):
        """Goes over the digits behind a point; gives numerator and denominator."""
        start = self.at
        numerator = self.take_digits(whole)
        denominator = 1
        for place in range(start, self.at):
            denominator = denominator * 10
        return (numerator, denominator)

    def scan_number(self):
        whole = self.take_digits(0)
        pair = (whole, 1)
        if self.digits_behind(POINT):
            self.at += 1
            pair = self.take_decimals(whole)
        elif self.digits_behind(COLON):
            self.at += 1
            pair = (whole, self.take_digits(0))
        behind = self.peek(0)
        if pair[1] == 0 or is_letter(behind) or behind in (UNDERSCORE, POINT, COLON):
            raise NoExpression()
        pair = lowest_terms(pair[0], pair[1])
        if pair[0] > LARGEST or pair[1] > LARGEST:
            raise NoExpression()
        self.tokens.append(("number", pair))

    def take_name_signs(self):
        """Goes over letters, digits and underscores; gives them as a text."""
        start = self.at
        while is_name_sign(self.peek(0)):
            self.at += 1
        return "".join([name_sign_text(sign) for sign in self.signs[start:self.at]])

    def scan_name(self):
        name = self.take_name_signs()
        if self.peek(0) == POINT and is_letter(self.peek(1)):
            self.at += 1
            name = name + "." + self.take_name_signs()
        if len(name) > LONGEST_NAME:
            raise NoExpression()
        self.tokens.append(("word" if name in WORDS else "name", name))

    def scan_sign(self):
        if self.peek(0) in MARKS:
            self.tokens.append(("mark", MARKS[self.peek(0)]))
            self.at += 1
            return
        # The longer ones first: a token is the longest that fits.
        for length in (2, 1):
            signs = tuple(self.signs[self.at:self.at + length])
            if signs in TWO_SIGNS:
                self.tokens.append(("two", TWO_SIGNS.index(signs)))
                self.at += len(signs)
                return
        raise NoExpression()


def tokens_of(text):
    """All tokens of a text and an end behind them; refuses a text with a wrong one."""
    scanner = Scanner(text)
    while scanner.at < len(text):
        scanner.scan_token()
    return scanner.tokens + [("end", "")]
