"""What the tests have in common: texts of Python in the place of lists of signs."""

import stackback.stackcode

# For each kind, the weakest first, texts of that kind.
KINDS = [
    ["if a0 then a1 else a2"],
    ["a0 or a1"],
    ["a0 and a1"],
    ["not a0"],
    ["a0 = a1", "a0 <> a1", "a0 < a1", "a0 <= a1", "a0 > a1", "a0 >= a1"],
    ["a0 + a1", "a0 - a1"],
    ["a0 * a1", "a0 / a1", "a0 // a1", "a0 % a1"],
    ["-a0"],
    ["a0 ^ a1"],
    ["a0", "5", "5:2", "clock", "f1.free", "g1", "g1(a0)", "g2(a0, a1)", "t1(a0)", "floor(a0)", "ceil(a0)", "abs(a0)",
     "sign(a0)", "num(a0)", "den(a0)", "min(a0, a1)", "max(a0, a1, a2)"],
]

# The text with a gap for the part, and the weakest kind that stands there without brackets.
PLACES = [
    ("if {} then a1 else a2", 0), ("if a0 then {} else a2", 0), ("if a0 then a1 else {}", 0),
    ("{} or a3", 1), ("a3 or {}", 2), ("{} and a3", 2), ("a3 and {}", 3), ("not {}", 3),
    ("-{}", 7), ("{} ^ a3", 9), ("a3 ^ {}", 7),
    ("floor({})", 0), ("ceil({})", 0), ("abs({})", 0), ("sign({})", 0), ("num({})", 0), ("den({})", 0),
    ("min({}, a3)", 0), ("max({}, a3)", 0), ("max(a3, {}, a3)", 0), ("g3({})", 0), ("g3({}, a3)", 0), ("g3(a3, {})", 0),
    ("t3({})", 0),
]
PLACES += [(f"{{}} {sign} a3", 5) for sign in "= <> < <= > >= + -".split()]
PLACES += [(f"a3 {sign} {{}}", 5) for sign in "= <> < <= > >=".split()]
PLACES += [(f"a3 {sign} {{}}", 6) for sign in "+ -".split()]
PLACES += [(f"{{}} {sign} a3", 6) for sign in "* / // %".split()]
PLACES += [(f"a3 {sign} {{}}", 7) for sign in "* / // %".split()]


class Watched(list):
    """A list that may only be read."""

    def refuse(self, *arguments):
        raise AssertionError("a list that was handed in is changed")

    append = extend = insert = pop = remove = clear = sort = reverse = refuse
    __setitem__ = __delitem__ = __iadd__ = __imul__ = refuse


def signs(text):
    return [ord(sign) for sign in text]


def code(n, text):
    """What code answers for a text of Python."""
    return stackback.stackcode.code(n, signs(text))


def row(n, text):
    """The numbers of a text's code; the text must be taken."""
    answer = code(n, text)
    if answer[0] != 0 or answer[1] != len(answer) - 2:
        raise AssertionError(f"{text!r} is answered with {answer}")
    return answer[2:]


def tree(n, numbers):
    """What tree answers: a refusal as a list, else the printed expression as a text of Python."""
    answer = stackback.stackcode.tree(n, numbers)
    if answer[0] != 0:
        return answer
    if answer[1] != len(answer) - 2:
        raise AssertionError(f"a wrong length ahead of a text: {answer}")
    return "".join(chr(sign) for sign in answer[2:])


def canon(n, text):
    """What canon answers for a text of Python: a refusal as a list, else a text of Python."""
    answer = stackback.stackcode.canon(n, signs(text))
    if answer[0] != 0:
        return answer
    if answer[1] != len(answer) - 2:
        raise AssertionError(f"a wrong length ahead of a text: {answer}")
    return "".join(chr(sign) for sign in answer[2:])


def same(n, text, other):
    """What same answers for two texts of Python."""
    return stackback.stackcode.same(n, signs(text), signs(other))


def back(n, text):
    """A text's code printed again."""
    return tree(n, row(n, text))


def folded_row(n, numbers):
    """The numbers of a code when it is folded; the code must be taken."""
    answer = stackback.stackcode.fold(n, numbers)
    if answer[0] != 0 or answer[1] != len(answer) - 2:
        raise AssertionError(f"{numbers} is answered with {answer}")
    return answer[2:]


def folded(n, text):
    """A text's code folded and printed again."""
    return tree(n, folded_row(n, row(n, text)))


def measured(n, text):
    """The five numbers of a text's code."""
    answer = stackback.stackcode.measure(n, row(n, text))
    if answer[0] != 0 or len(answer) != 6:
        raise AssertionError(f"{text!r} is answered with {answer}")
    return answer[1:]


def parted(n, numbers):
    """The rows of four numbers that parts tells of a code; the code must be taken."""
    answer = stackback.stackcode.parts(n, numbers)
    if answer[0] != 0 or len(answer) != 2 + 4 * answer[1]:
        raise AssertionError(f"{numbers} is answered with {answer}")
    return [tuple(answer[at:at + 4]) for at in range(2, len(answer), 4)]


def put(n, i, text, other):
    """What put answers for the codes of two texts."""
    return stackback.stackcode.put(n, i, row(n, text), row(n, other))


def put_row(n, i, text, other):
    """The numbers of the code that comes; nothing may be refused."""
    answer = put(n, i, text, other)
    if answer[0] != 0 or answer[1] != len(answer) - 2:
        raise AssertionError(f"part {i} of {text!r}, {other!r} is answered with {answer}")
    return answer[2:]
