"""The names that may be used, and the instructions that stand for them."""

from stackback.refusals import WrongName

READ_ALONE = {"clock": 0, "living": 1, "me": 192, "priority": 193, "elapsed": 194, "age": 195, "family": 196}

# What stands before the number in a name, what stands behind it, the first one's number, how many there are.
READ_ROWS = (
    ("p", "", 64, 16),
    ("v", "", 128, 64),
    ("f", ".free", 256, 64),
    ("f", ".holder", 320, 64),
    ("s", ".used", 384, 64),
    ("s", ".left", 448, 64),
    ("s", ".open", 512, 64),
    ("q", ".content", 576, 64),
    ("c", ".length", 640, 64),
    ("k", "", 704, 64),
    ("f", ".open", 832, 64),
    ("f", ".displaced", 896, 64),
)

FORMULAS = 64
TABLES = 64
MOST_ARGUMENTS = 8


def number_within(name, head, tail, count):
    """The number between head and tail in a name, or -1 if there is none from 0 to count - 1."""
    if not name.startswith(head) or not name.endswith(tail):
        return -1
    digits = name[len(head):len(name) - len(tail)]
    if not digits.isdigit():
        return -1
    number = int(digits)
    if str(number) != digits or number >= count:
        return -1
    return number


def number_of_read(name):
    """The number under which a name is read, or -1."""
    if name in READ_ALONE:
        return READ_ALONE[name]
    for head, tail, first, count in READ_ROWS:
        number = number_within(name, head, tail, count)
        if number >= 0:
            return first + number
    return -1


def name_of_read(number):
    """The name that is read under a number, or an empty text."""
    for name, known in READ_ALONE.items():
        if known == number:
            return name
    for head, tail, first, count in READ_ROWS:
        if first <= number < first + count:
            return head + str(number - first) + tail
    return ""


def bare_name_instruction(name, n):
    """The instruction of a name without brackets, where there are n parameters."""
    parameter = number_within(name, "a", "", n)
    if parameter >= 0:
        return (1, parameter)
    formula = number_within(name, "g", "", FORMULAS)
    if formula >= 0:
        return (8, formula, 0)
    read = number_of_read(name)
    if read >= 0:
        return (2, read)
    raise WrongName()


def called_name_instruction(name, count):
    """The last instruction of a name with count parts in brackets."""
    formula = number_within(name, "g", "", FORMULAS)
    if formula >= 0 and count <= MOST_ARGUMENTS:
        return (8, formula, count)
    table = number_within(name, "t", "", TABLES)
    if table >= 0 and count == 1:
        return (7, table)
    raise WrongName()
