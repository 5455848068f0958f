"""The document once more, as plainly as can be, to hold the program against.

Nothing here is drawn from the package. A text is cut by a regular expression
and read by one function a row of the grammar. A code is turned back by asking
for every place which expressions may end there, all of them; that a row is the
code of at most one simple expression is asked for on the way.

A tree is a tuple: a form, a detail and the parts.
"""

import math
import operator
import re
from fractions import Fraction

BIG = 10 ** 18
ONE = ["-", "not", "floor", "ceil", "abs", "sign", "num", "den"]
TWO = ["+", "-", "*", "/", "//", "%", "^", "=", "<>", "<", "<=", ">", ">="]
COMPARISONS = TWO[7:]
WORDS = "and or not if then else floor ceil abs sign num den min max".split()

READ = {"clock": 0, "living": 1, "me": 192, "priority": 193, "elapsed": 194, "age": 195, "family": 196}
for i in range(16):
    READ[f"p{i}"] = 64 + i
for i in range(64):
    READ[f"v{i}"] = 128 + i
    READ[f"f{i}.free"] = 256 + i
    READ[f"f{i}.holder"] = 320 + i
    READ[f"s{i}.used"] = 384 + i
    READ[f"s{i}.left"] = 448 + i
    READ[f"s{i}.open"] = 512 + i
    READ[f"q{i}.content"] = 576 + i
    READ[f"c{i}.length"] = 640 + i
    READ[f"k{i}"] = 704 + i
    READ[f"f{i}.open"] = 832 + i
    READ[f"f{i}.displaced"] = 896 + i
READ_NAMES = {number: name for name, number in READ.items()}
FORMULAS = {f"g{i}": i for i in range(64)}
TABLES = {f"t{i}": i for i in range(64)}


class Refused(Exception):
    pass


# --- texts

TOKEN = re.compile(
    r"[ \t\n\r]*(?:(?P<number>[0-9]+(?:[.:][0-9]+)?)(?![A-Za-z_.:0-9])"
    r"|(?P<name>[A-Za-z][A-Za-z0-9_]*(?:\.[A-Za-z][A-Za-z0-9_]*)?)(?![A-Za-z0-9_])"
    r"|(?P<sign>//|<=|<>|>=|[-+*/%^=<>(),])"
    r"|(?P<end>\Z))"
)


def number_of(text):
    if ":" in text:
        above, below = text.split(":")
        if int(below) == 0:
            raise Refused(-6)
        value = Fraction(int(above), int(below))
    else:
        value = Fraction(text)
    if value.numerator > BIG or value.denominator > BIG:
        raise Refused(-6)
    return value


def tokens(text):
    found = []
    at = 0
    while True:
        match = TOKEN.match(text, at)
        if match is None:
            raise Refused(-6)
        at = match.end()
        what, value = match.lastgroup, match.group(match.lastgroup)
        if what == "end":
            return found + [("end", "")]
        if what == "name" and len(value) > 24:
            raise Refused(-6)
        if what == "number":
            value = number_of(value)
        if what == "name" and value in WORDS:
            what = "sign"
        found.append((what, value))


class Reader:
    """One method a row of the grammar; depth is how many stand around what is read."""

    def __init__(self, text):
        self.tokens = tokens(text)
        self.at = 0
        self.deepest = 0

    def sees(self, *signs):
        what, value = self.tokens[self.at]
        return what == "sign" and value in signs

    def take(self):
        self.at += 1
        return self.tokens[self.at - 1][1]

    def want(self, sign):
        if not self.sees(sign):
            raise Refused(-6)
        self.at += 1

    def whole(self):
        tree = self.expr(0)
        if self.tokens[self.at][0] != "end":
            raise Refused(-6)
        return tree

    def expr(self, depth):
        self.deepest = max(self.deepest, depth)
        if self.deepest > 60:
            raise Refused(-6)
        if not self.sees("if"):
            return self.disj(depth)
        self.take()
        condition = self.expr(depth + 1)
        self.want("then")
        first = self.expr(depth + 1)
        self.want("else")
        return ("if", 0, (condition, first, self.expr(depth + 1)))

    def disj(self, depth):
        left = self.conj(depth)
        while self.sees("or"):
            self.take()
            left = ("or", 0, (left, self.conj(depth)))
        return left

    def conj(self, depth):
        left = self.neg(depth)
        while self.sees("and"):
            self.take()
            left = ("and", 0, (left, self.neg(depth)))
        return left

    def neg(self, depth):
        # A row of signs before one part is gone through by a loop: there may be 2000 of them.
        count = 0
        while self.sees("not"):
            self.take()
            count += 1
        self.deepest = max(self.deepest, depth + count)
        tree = self.comp(depth + count)
        for step in range(count):
            tree = ("one", "not", (tree,))
        return tree

    def comp(self, depth):
        left = self.sum(depth)
        if self.sees(*COMPARISONS):
            sign = self.take()
            left = ("two", sign, (left, self.sum(depth)))
        return left

    def sum(self, depth):
        left = self.prod(depth)
        while self.sees("+", "-"):
            sign = self.take()
            left = ("two", sign, (left, self.prod(depth)))
        return left

    def prod(self, depth):
        left = self.sgn(depth)
        while self.sees("*", "/", "//", "%"):
            sign = self.take()
            left = ("two", sign, (left, self.sgn(depth)))
        return left

    def sgn(self, depth):
        count = 0
        while self.sees("-"):
            self.take()
            count += 1
        self.deepest = max(self.deepest, depth + count)
        tree = self.pow(depth + count)
        for step in range(count):
            tree = ("one", "-", (tree,))
        return tree

    def pow(self, depth):
        left = self.atom(depth)
        if self.sees("^"):
            self.take()
            self.deepest = max(self.deepest, depth + 1)
            if self.deepest > 60:
                raise Refused(-6)
            left = ("two", "^", (left, self.sgn(depth + 1)))
        return left

    def atom(self, depth):
        what, value = self.tokens[self.at]
        if what == "number":
            self.take()
            return ("number", value, ())
        if what == "name":
            self.take()
            return ("call", value, self.brackets(depth, True)) if self.sees("(") else ("name", value, ())
        if self.sees("("):
            return self.brackets(depth, False)[0]
        if self.sees("min", "max"):
            return ("pick", self.take(), self.brackets(depth, True))
        if self.sees(*ONE[2:]):
            return ("one", self.take(), self.brackets(depth, False))
        raise Refused(-6)

    def brackets(self, depth, several):
        self.want("(")
        parts = [self.expr(depth + 1)]
        while several and self.sees(","):
            self.take()
            parts.append(self.expr(depth + 1))
        self.want(")")
        return tuple(parts)


def nesting(text):
    reader = Reader(text)
    reader.whole()
    return reader.deepest


def height(tree):
    """By a loop, as a tree may be very high."""
    greatest = 0
    level = [tree]
    while level:
        greatest += 1
        level = [part for node in level for part in node[2]]
    return greatest


def rows_of(tree, n):
    """The instructions of a tree."""
    form, detail, parts = tree
    if form == "number":
        return [(0, detail.numerator, detail.denominator)]
    if form == "name":
        if detail in [f"a{i}" for i in range(n)]:
            return [(1, int(detail[1:]))]
        if detail in FORMULAS:
            return [(8, FORMULAS[detail], 0)]
        if detail in READ:
            return [(2, READ[detail])]
        raise Refused(-8)
    codes = [rows_of(part, n) for part in parts]
    if form == "and":
        return codes[0] + [(6, 2 + len(codes[1]))] + codes[1] + [(9,), (5, 1), (0, 0, 1)]
    if form == "or":
        return codes[0] + [(6, 2), (0, 1, 1), (5, 1 + len(codes[1]))] + codes[1] + [(9,)]
    if form == "if":
        return codes[0] + [(6, 1 + len(codes[1]))] + codes[1] + [(5, len(codes[2]))] + codes[2]
    behind = sum(codes, [])
    if form == "one":
        return behind + [(3, ONE.index(detail))]
    if form == "two":
        return behind + [(4, TWO.index(detail))]
    if form == "pick":
        return behind + [(10, ["min", "max"].index(detail))] * (len(parts) - 1)
    if detail in FORMULAS and len(parts) <= 8:
        return behind + [(8, FORMULAS[detail], len(parts))]
    if detail in TABLES and len(parts) == 1:
        return behind + [(7, TABLES[detail])]
    raise Refused(-8)


def flat(rows):
    return [number for row in rows for number in row]


def taken_text(n, text):
    """The tree of a text of Python, if the call isn't refused, and its code."""
    if not 0 <= n <= 8:
        raise Refused(-1)
    if len(text) > 2000:
        raise Refused(-5)
    reader = Reader(text)
    tree = reader.whole()
    if reader.deepest > 32:
        raise Refused(-6)
    if height(tree) > 32:
        raise Refused(-7)
    row = flat(rows_of(tree, n))
    if len(row) > 500:
        raise Refused(-2)
    return tree, row


def code(n, text):
    """What code answers; text is a text of Python here."""
    try:
        row = taken_text(n, text)[1]
    except Refused as refused:
        return [refused.args[0]]
    return [0, len(row)] + row


def simplified(tree):
    """The simple tree with the code of a tree, made without a look at that code."""
    form, detail, parts = tree
    parts = tuple(simplified(part) for part in parts)
    if form == "pick" and len(parts) == 1:
        return parts[0]
    if form == "pick" and parts[-1][:2] == (form, detail):
        return (form, detail, parts[:-1] + parts[-1][2])
    return (form, detail, parts)


def canon(n, text):
    """What canon answers, but with a text of Python behind the 0."""
    try:
        tree, row = taken_text(n, text)
    except Refused as refused:
        return [refused.args[0]]
    if flat(rows_of(simplified(tree), n)) != row:
        raise AssertionError("a simple expression with another code")
    return [0, printed(simplified(tree))]


def same(n, text, other):
    """What same answers; the texts are texts of Python here."""
    try:
        return [0, int(taken_text(n, text)[1] == taken_text(n, other)[1])]
    except Refused as refused:
        return [refused.args[0]]


# --- printing

def kind(tree):
    form, detail, parts = tree
    if form == "one":
        return {"not": 3, "-": 7}.get(detail, 9)
    if form == "two":
        return 4 if detail in COMPARISONS else 5 if detail in "+-" else 8 if detail == "^" else 6
    return {"if": 0, "or": 1, "and": 2}.get(form, 9)


def printed(tree):
    form, detail, parts = tree
    if form == "number":
        return str(detail.numerator) if detail.denominator == 1 else f"{detail.numerator}:{detail.denominator}"
    if form == "name":
        return detail

    def put(index, place):
        return printed(parts[index]) if kind(parts[index]) >= place else "(" + printed(parts[index]) + ")"

    if form == "if":
        return f"if {put(0, 0)} then {put(1, 0)} else {put(2, 0)}"
    if form == "or":
        return f"{put(0, 1)} or {put(1, 2)}"
    if form == "and":
        return f"{put(0, 2)} and {put(1, 3)}"
    if form == "one" and detail == "not":
        return "not " + put(0, 3)
    if form == "one" and detail == "-":
        return "-" + put(0, 7)
    if form == "two":
        left, right = {4: (5, 5), 5: (5, 6), 6: (6, 7), 8: (9, 7)}[kind(tree)]
        return f"{put(0, left)} {detail} {put(1, right)}"
    return detail + "(" + ", ".join(printed(part) for part in parts) + ")"


# --- codes

NUMBERS_BEHIND = [2, 1, 1, 1, 1, 1, 1, 1, 2, 0, 1]


def instructions(row):
    found = []
    at = 0
    while at < len(row):
        if row[at] not in range(11) or at + NUMBERS_BEHIND[row[at]] >= len(row):
            raise Refused(-3)
        end = at + 1 + NUMBERS_BEHIND[row[at]]
        found.append(tuple(row[at:end]))
        at = end
    return found


def leaf(row, n):
    """The tree of an instruction that is a whole code, or None."""
    if row[0] == 0 and 0 <= row[1] <= BIG and 1 <= row[2] <= BIG and Fraction(row[1], row[2]).denominator == row[2]:
        return ("number", Fraction(row[1], row[2]), ())
    if row[0] == 1 and row[1] in range(n):
        return ("name", f"a{row[1]}", ())
    if row[0] == 2 and row[1] in READ_NAMES:
        return ("name", READ_NAMES[row[1]], ())
    if row[0] == 8 and row[1] in range(64) and row[2] == 0:
        return ("name", f"g{row[1]}", ())
    return None


class Endings:
    """For each place j: the simple expressions whose code ends right before it, by where that begins."""

    def __init__(self, rows, n):
        self.rows = rows
        self.n = n
        self.at = [{}]
        for j in range(1, len(rows) + 1):
            self.at.append({})
            self.fill(j)

    def row(self, i):
        return self.rows[i] if i >= 0 else None

    def add(self, i, j, tree):
        """Puts a tree down, and every if that it is the last part of."""
        while True:
            if i in self.at[j]:
                raise AssertionError("two simple expressions with one code")
            self.at[j][i] = tree
            if self.row(i - 1) != (5, j - i):
                return
            outer = [
                (c, ("if", 0, (condition, first, tree)))
                for a, first in self.at[i - 1].items() if self.row(a - 1) == (6, i - a)
                for c, condition in self.at[a - 1].items()
            ]
            for more in outer[1:]:
                self.add(more[0], j, more[1])
            if not outer:
                return
            i, tree = outer[0]

    def runs(self, j, count):
        """All rows of count expressions that end at j: where they begin, and the trees."""
        found = [(j, ())]
        for step in range(count):
            found = [(i, (tree,) + trees) for k, trees in found for i, tree in self.at[k].items()]
        return found

    def fill(self, j):
        last = self.rows[j - 1]
        if leaf(last, self.n):
            self.add(j - 1, j, leaf(last, self.n))
        if last == (0, 0, 1) and self.row(j - 2) == (5, 1) and self.row(j - 3) == (9,):
            for i, tree in self.at[j - 3].items():
                if self.row(i - 1) == (6, j - 3 - i + 2):
                    for c, condition in self.at[i - 1].items():
                        self.add(c, j, ("and", 0, (condition, tree)))
        if last == (9,):
            for i, tree in self.at[j - 1].items():
                if i >= 3 and self.rows[i - 3:i] == [(6, 2), (0, 1, 1), (5, j - i)]:
                    for c, condition in self.at[i - 3].items():
                        self.add(c, j, ("or", 0, (condition, tree)))
        self.fill_plain(j, last)

    def fill_plain(self, j, last):
        if last[0] == 3 and last[1] in range(8):
            self.add_runs(j, 1, "one", ONE[last[1]])
        if last[0] == 4 and last[1] in range(13):
            self.add_runs(j, 2, "two", TWO[last[1]])
        if last[0] == 7 and last[1] in range(64):
            self.add_runs(j, 1, "call", f"t{last[1]}")
        if last[0] == 8 and last[1] in range(64) and last[2] in range(1, 9):
            self.add_runs(j, last[2], "call", f"g{last[1]}")
        if last[0] == 10 and last[1] in range(2):
            self.fill_pick(j, last, ["min", "max"][last[1]])

    def add_runs(self, j, count, form, detail):
        for i, trees in self.runs(j - 1, count):
            self.add(i, j, (form, detail, trees))

    def fill_pick(self, j, last, word):
        count = 1
        while j - count >= 0 and self.rows[j - count] == last:
            for i, trees in self.runs(j - count, count + 1):
                if trees[-1][:2] != ("pick", word):
                    self.add(i, j, ("pick", word, trees))
            count += 1


def simple_tree(row, n):
    rows = instructions(row)
    tree = Endings(rows, n).at[len(rows)].get(0) if rows else None
    if tree is None:
        raise Refused(-3)
    return tree


def taken(n, row):
    """The simple tree of a code, if the call isn't refused, and its text."""
    if not 0 <= n <= 8:
        raise Refused(-1)
    if len(row) > 500:
        raise Refused(-2)
    found = simple_tree(row, n)
    if height(found) > 32:
        raise Refused(-4)
    text = printed(found)
    if nesting(text) > 32:
        raise Refused(-4)
    return found, text


def tree(n, row):
    """What tree answers, but with a text of Python behind the 0."""
    try:
        return [0, taken(n, row)[1]]
    except Refused as refused:
        return [refused.args[0]]


# --- folding

COMPARE = {"=": operator.eq, "<>": operator.ne, "<": operator.lt, "<=": operator.le, ">": operator.gt, ">=": operator.ge}
WORK = {"+": operator.add, "-": operator.sub, "*": operator.mul, "/": operator.truediv, "//": operator.floordiv, "%": operator.mod}
LONE = {
    "-": operator.neg, "not": lambda a: a == 0, "floor": math.floor, "ceil": math.ceil, "abs": abs,
    "sign": lambda a: (a > 0) - (a < 0), "num": lambda a: a.numerator, "den": lambda a: a.denominator,
}


def value(tree):
    """What a standing number is worth; None for any other tree."""
    form, detail, parts = tree
    if form == "number":
        return detail
    if (form, detail) == ("one", "-") and parts[0][0] == "number":
        return -parts[0][1]
    return None


def standing(result):
    if result < 0:
        return ("one", "-", (standing(-result),))
    return ("number", Fraction(int(result) if isinstance(result, bool) else result), ())


def work(sign, a, b):
    """What two numbers give, or None for an error."""
    if sign in COMPARE:
        return Fraction(COMPARE[sign](a, b))
    if sign == "^":
        if b not in range(-64, 65) or a == 0 and b < 0:
            return None
        result = Fraction(a) ** int(b)
    elif sign in ("/", "//", "%") and b == 0:
        return None
    else:
        result = Fraction(WORK[sign](a, b))
    return result if -BIG <= result.numerator <= BIG and result.denominator <= BIG else None


def is_number(tree, number):
    return tree[0] == "number" and tree[1] == number


def folded(tree):
    form, detail, parts = tree
    parts = tuple(folded(part) for part in parts)
    tree = (form, detail, parts)
    values = [value(part) for part in parts]
    known = None not in values
    if form == "one" and known:
        return standing(LONE[detail](values[0]))
    if form == "pick" and known:
        return standing((min if detail == "min" else max)(values))
    if form == "two" and known:
        result = work(detail, *values)
        return tree if result is None else standing(result)
    if form == "two":
        return without_idle(tree)
    if form == "if" and values[0] is not None:
        return parts[1] if values[0] else parts[2]
    if form in ("and", "or") and values[0] is not None:
        if bool(values[0]) == (form == "or"):
            return standing(form == "or")
        if values[1] is not None:
            return standing(values[1] != 0)
        truth = parts[1][0] in ("and", "or") or parts[1][1] == "not" or parts[1][0] == "two" and parts[1][1] in COMPARISONS
        return parts[1] if truth else tree
    return tree


def without_idle(tree):
    sign, (left, right) = tree[1:]
    if sign == "+" and is_number(left, 0) or sign == "*" and is_number(left, 1):
        return right
    if sign in "+-" and is_number(right, 0) or sign in ("*", "/", "^") and is_number(right, 1):
        return left
    return tree


def fold(n, row):
    """What fold answers."""
    try:
        new = flat(rows_of(folded(taken(n, row)[0]), n))
    except Refused as refused:
        return [refused.args[0]]
    return [0, len(new)] + new


# --- measuring

def every(tree):
    return [tree] + [below for part in tree[2] for below in every(part)]


def need(tree):
    form, detail, parts = tree
    if form in ("number", "name"):
        return 1
    if form == "one":
        return need(parts[0])
    if form == "two":
        return max(need(parts[0]), 1 + need(parts[1]))
    if form in ("and", "or", "if"):
        return max(need(part) for part in parts)
    return max(j + need(parts[j]) for j in range(len(parts)))


def measure(n, row):
    """What measure answers."""
    try:
        found = taken(n, row)[0]
    except Refused as refused:
        return [refused.args[0]]
    names = {part[1] for part in every(found) if part[0] in ("name", "call")}
    return [0, len(rows_of(found, n)), height(found), len(every(found)), len(names), need(found)]


# --- parts

FORMS = ["number", "name", "one", "two", "and", "or", "if", "pick", "call"]


def begins(tree, n):
    """Where the code of each part begins, counted from where the tree's own code does."""
    form, detail, parts = tree
    sizes = [len(rows_of(part, n)) for part in parts]
    if form == "and":
        return [0, sizes[0] + 1]
    if form == "or":
        return [0, sizes[0] + 3]
    if form == "if":
        return [0, sizes[0] + 1, sizes[0] + 1 + sizes[1] + 1]
    return [sum(sizes[:j]) for j in range(len(parts))]


def told(tree, n, begin=0):
    rows = [[FORMS.index(tree[0]), begin, len(rows_of(tree, n)), height(tree)]]
    for part, start in zip(tree[2], begins(tree, n)):
        rows += told(part, n, begin + start)
    return rows


def parts(n, row):
    """What parts answers."""
    try:
        rows = told(taken(n, row)[0], n)
    except Refused as refused:
        return [refused.args[0]]
    return [0, len(rows)] + flat(rows)


def paths(tree):
    """For each of all parts, in order, which way leads to it."""
    return [()] + [(j,) + path for j, part in enumerate(tree[2]) for path in paths(part)]


def replaced(tree, path, new):
    if not path:
        return new
    form, detail, parts = tree
    return (form, detail, parts[:path[0]] + (replaced(parts[path[0]], path[1:], new),) + parts[path[0] + 1:])


def put(n, i, row, other):
    """What put answers."""
    try:
        first = taken(n, row)[0]
        second = taken(n, other)[0]
        if i not in range(len(every(first))):
            raise Refused(-12)
        new = replaced(first, paths(first)[i], second)
        if height(new) > 32 or nesting(printed(new)) > 32:
            raise Refused(-4)
        numbers = flat(rows_of(new, n))
        if len(numbers) > 500:
            raise Refused(-2)
    except Refused as refused:
        return [refused.args[0]]
    return [0, len(numbers)] + numbers
