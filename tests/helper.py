"""What the tests have in common: texts of Python in the place of lists of signs."""

import stackback.stackcode


def signs(text):
    return [ord(sign) for sign in text]


def code(n, text):
    """What code answers for a text of Python."""
    return stackback.stackcode.code(n, signs(text))


def row(n, text):
    """The numbers of a text's code; the text must be taken."""
    answer = code(n, text)
    if answer[0] != 0 or answer[1] != len(answer) - 2:
        raise AssertionError(f"{text!r} is answered with {answer}")
    return answer[2:]


def tree(n, numbers):
    """What tree answers: a refusal as a list, else the printed expression as a text of Python."""
    answer = stackback.stackcode.tree(n, numbers)
    if answer[0] != 0:
        return answer
    if answer[1] != len(answer) - 2:
        raise AssertionError(f"a wrong length ahead of a text: {answer}")
    return "".join(chr(sign) for sign in answer[2:])


def back(n, text):
    """A text's code printed again."""
    return tree(n, row(n, text))


def folded_row(n, numbers):
    """The numbers of a code when it is folded; the code must be taken."""
    answer = stackback.stackcode.fold(n, numbers)
    if answer[0] != 0 or answer[1] != len(answer) - 2:
        raise AssertionError(f"{numbers} is answered with {answer}")
    return answer[2:]


def folded(n, text):
    """A text's code folded and printed again."""
    return tree(n, folded_row(n, row(n, text)))


def measured(n, text):
    """The five numbers of a text's code."""
    answer = stackback.stackcode.measure(n, row(n, text))
    if answer[0] != 0 or len(answer) != 6:
        raise AssertionError(f"{text!r} is answered with {answer}")
    return answer[1:]
