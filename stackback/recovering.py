"""A code turned back into its simple expression.

The instructions are gone through once. A row is the code of at most one simple
expression, so nothing that is decided on the way is ever taken back.
"""

from stackback.exact import is_right_pair
from stackback.names import FORMULAS, MOST_ARGUMENTS, TABLES, name_of_read
from stackback.nodes import AND, CALL, IF, NAME, NUMBER, ONE, ONE_WORDS, OR, PICK, PICK_WORDS, TWO, TWO_SIGNS
from stackback.nodes import Node
from stackback.refusals import NoCode

# By an instruction's first number: how many numbers it has in all.
LENGTHS = (3, 2, 2, 2, 2, 2, 2, 2, 3, 1, 2)

NUMBER_ZERO = (0, 0, 1)
NUMBER_ONE = (0, 1, 1)


def instructions_in(code, n):
    """The code cut into its instructions, each right by itself."""
    rows = []
    at = 0
    while at < len(code):
        if not 0 <= code[at] < len(LENGTHS):
            raise NoCode()
        row = tuple(code[at:at + LENGTHS[code[at]]])
        if len(row) < LENGTHS[code[at]] or not is_right_instruction(row, n):
            raise NoCode()
        rows.append(row)
        at += len(row)
    return rows


def is_right_instruction(row, n):
    """Whether the numbers behind the first one may stand there; jumps are seen to later."""
    first = row[0]
    if first == 0:
        return is_right_pair(row[1], row[2])
    if first == 2:
        return name_of_read(row[1]) != ""
    if first == 8:
        return 0 <= row[1] < FORMULAS and 0 <= row[2] <= MOST_ARGUMENTS
    if first == 9:
        return True
    return 0 <= row[1] and (first in (5, 6) or row[1] < choices_of(first, n))


def choices_of(first, n):
    """How many numbers, from 0, may stand behind a first number of 1, 3, 4, 7 or 10."""
    if first == 1:
        return n
    if first == 3:
        return len(ONE_WORDS)
    if first == 4:
        return len(TWO_SIGNS)
    if first == 7:
        return TABLES
    return len(PICK_WORDS)


class Choice:
    """An and, or or if that has begun: its condition is known, what it jumps over is being read.

    start is where its jump stands, middle where that leads, end where all of
    it is over, base how many expressions wait below it. Which of the three it
    is shows only where its last part is over.
    """

    def __init__(self, condition, start, middle, end, base):
        self.condition = condition
        self.start = start
        self.middle = middle
        self.end = end
        self.base = base
        self.first_part = None

    def limit(self):
        """Where what is being read must be over at the latest."""
        if self.first_part is None:
            return self.middle - 1
        return self.end


class Recovery:
    """Goes along the instructions; waiting are the expressions that wait to be taken as parts."""

    def __init__(self, rows):
        self.rows = rows
        self.at = 0
        self.waiting = []
        self.choices = []

    def step(self):
        row = self.rows[self.at]
        if row[0] == 6:
            self.begin_choice(row[1])
        elif row[0] == 5:
            self.go_on_choice()
        elif row[0] == 9:
            self.end_joining()
        else:
            self.take_plain(row)
        self.end_ifs()

    def free(self):
        """How many waiting expressions may be taken here: none from outside of what is being read."""
        if self.choices:
            return len(self.waiting) - self.choices[-1].base
        return len(self.waiting)

    def take_parts(self, count):
        """Takes the last count expressions that wait."""
        if count > self.free():
            raise NoCode()
        parts = []
        while len(parts) < count:
            parts.append(self.waiting.pop())
        parts.reverse()
        return parts

    def take_only(self):
        """Takes the one expression that must be all of what is being read."""
        if self.free() != 1:
            raise NoCode()
        return self.waiting.pop()

    def take_plain(self, row):
        """Takes an instruction that is no jump and belongs to no and, or."""
        node = self.plain_node(row)
        self.waiting.append(node)
        self.at += 1

    def plain_node(self, row):
        first = row[0]
        if first == 0:
            return Node(NUMBER, (row[1], row[2]), [])
        if first == 1:
            return Node(NAME, "a" + str(row[1]), [])
        if first == 2:
            return Node(NAME, name_of_read(row[1]), [])
        if first == 3:
            return Node(ONE, row[1], self.take_parts(1))
        if first == 4:
            return Node(TWO, row[1], self.take_parts(2))
        if first == 7:
            return Node(CALL, "t" + str(row[1]), self.take_parts(1))
        if first == 8:
            return formula_node(row[1], self.take_parts(row[2]))
        return pick_node(row[1], self.take_parts(2))

    def begin_choice(self, length):
        """Takes a conditional jump: right before where it leads there must be a jump to the end."""
        condition = self.take_parts(1)[0]
        limit = self.choices[-1].limit() if self.choices else len(self.rows)
        middle = self.at + 1 + length
        if middle > limit or self.rows[middle - 1][0] != 5:
            raise NoCode()
        end = middle + self.rows[middle - 1][1]
        if end > limit:
            raise NoCode()
        self.choices.append(Choice(condition, self.at, middle, end, len(self.waiting)))
        self.at += 1

    def go_on_choice(self):
        """Takes the jump to the end, which stands behind the first of two parts."""
        if not self.choices:
            raise NoCode()
        choice = self.choices[-1]
        if self.at != choice.middle - 1:
            raise NoCode()
        choice.first_part = self.take_only()
        self.at += 1

    def end_joining(self):
        """Takes a 9, which ends an or, or all of an and but its last two instructions."""
        if not self.choices:
            raise NoCode()
        second = self.take_only()
        choice = self.choices.pop()
        if self.at != self.place_of_nine(choice):
            raise NoCode()
        form = AND if choice.first_part is None else OR
        self.waiting.append(Node(form, 0, [choice.condition, second]))
        self.at = choice.end

    def place_of_nine(self, choice):
        """Where a 9 must stand, if the choice is an and or an or; -1 if it is neither."""
        if choice.first_part is None:
            is_and = choice.end == choice.middle + 1 and self.rows[choice.middle] == NUMBER_ZERO
            return choice.middle - 2 if is_and else -1
        is_or = choice.middle == choice.start + 3 and self.rows[choice.start + 1] == NUMBER_ONE
        return choice.end - 1 if is_or else -1

    def end_ifs(self):
        """Ends every if whose last part is over here."""
        while self.choices and self.at == self.choices[-1].end:
            second = self.take_only()
            choice = self.choices.pop()
            self.waiting.append(Node(IF, 0, [choice.condition, choice.first_part, second]))


def formula_node(formula, parts):
    return Node(CALL if parts else NAME, "g" + str(formula), parts)


def pick_node(detail, parts):
    """A min or max of two, which becomes one with its last part where that is the same."""
    last = parts[1]
    if last.form == PICK and last.detail == detail:
        return Node(PICK, detail, [parts[0]] + last.parts)
    return Node(PICK, detail, parts)


def simple_expression_of(code, n):
    """The simple expression of a code, however high; refuses a row that is no code."""
    recovery = Recovery(instructions_in(code, n))
    while recovery.at < len(recovery.rows):
        recovery.step()
    return recovery.take_only()
