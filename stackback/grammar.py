"""A text's tokens joined into an expression.

What has begun and is not ended waits on a list instead of in calls within one
another: a text may nest more than calls should.
"""

from stackback.nodes import AND, CALL, DEEPEST, IF, NAME, NUMBER, ONE, ONE_WORDS, OR, PICK, PICK_WORDS, STRONGEST, TWO
from stackback.nodes import Node, around_of, kind_of, place_of
from stackback.refusals import NoExpression
from stackback.tokens import tokens_of

# Brackets that only hold an expression together: a form that no tree has.
GROUP = 9

OPENING = ("mark", "(")
MINUS = ("two", 1)
NEGATIVE = 0
NEGATION = 1


class Frame:
    """An expression that has begun and waits for its next part."""

    def __init__(self, form, detail, parts):
        kind = kind_of(form, detail)
        self.form = form
        self.detail = detail
        self.parts = parts
        self.place = place_of(kind, len(parts))
        self.around = around_of(kind, len(parts))
        self.bracket = kind == STRONGEST

    def ends_with_part(self):
        """Whether the part that it waits for is its last one."""
        if self.form == IF:
            return len(self.parts) == 2
        return not self.bracket


class Parser:
    """Goes along the tokens; ended is the expression that ended just here, or None where one must begin."""

    def __init__(self, tokens):
        self.tokens = tokens
        self.at = 0
        self.frames = []
        self.nesting = 0
        self.ended = None
        # The kind of what ended; not always that of its form, as brackets may be around it.
        self.kind = STRONGEST

    def take(self):
        token = self.tokens[self.at]
        self.at += 1
        return token

    def step(self):
        if self.ended is None:
            self.begin(self.take())
        else:
            self.go_on(self.take())

    def push(self, form, detail, parts):
        frame = Frame(form, detail, parts)
        self.nesting += frame.around
        if self.nesting > DEEPEST:
            raise NoExpression()
        self.frames.append(frame)
        self.ended = None

    def begin(self, token):
        """Takes a token with which an expression begins."""
        if token[0] == "number":
            self.end_with(NUMBER, token[1], [])
        elif token[0] == "name":
            self.begin_name(token[1])
        elif token[0] == "word":
            self.begin_word(token[1])
        elif token == OPENING:
            self.push(GROUP, 0, [])
        elif token == MINUS:
            # Unlike if and not, it may begin any part: only what is left of ^ must be stronger.
            self.push(ONE, NEGATIVE, [])
        else:
            raise NoExpression()

    def begin_name(self, name):
        if self.tokens[self.at] == OPENING:
            self.at += 1
            self.push(CALL, name, [])
        else:
            self.end_with(NAME, name, [])

    def begin_word(self, word):
        place = self.frames[-1].place if self.frames else 0
        if word == "if" and place == 0:
            self.push(IF, 0, [])
        elif word == "not" and place <= kind_of(ONE, NEGATION):
            self.push(ONE, NEGATION, [])
        elif word != "not" and word in ONE_WORDS:
            self.begin_brackets(ONE, ONE_WORDS.index(word))
        elif word in PICK_WORDS:
            self.begin_brackets(PICK, PICK_WORDS.index(word))
        else:
            raise NoExpression()

    def begin_brackets(self, form, detail):
        if self.take() != OPENING:
            raise NoExpression()
        self.push(form, detail, [])

    def go_on(self, token):
        """Takes a token that stands behind an ended expression."""
        if token[0] == "two":
            self.join_two(TWO, token[1])
        elif token == ("word", "and"):
            self.join_two(AND, 0)
        elif token == ("word", "or"):
            self.join_two(OR, 0)
        else:
            self.end_parts()
            self.go_on_around(token)

    def go_on_around(self, token):
        """Takes a token that belongs to what stands around the ended expression."""
        if token == ("word", "then"):
            self.next_of_if(0)
        elif token == ("word", "else"):
            self.next_of_if(1)
        elif token == ("mark", ","):
            self.next_in_brackets()
        elif token == ("mark", ")"):
            self.close_brackets()
        elif token[0] != "end" or self.frames:
            raise NoExpression()

    def join_two(self, form, detail):
        """Makes the ended expression the left part of one that joins two."""
        kind = kind_of(form, detail)
        while self.frames and self.frames[-1].place > kind:
            self.end_frame()
        if self.kind < place_of(kind, 0):
            raise NoExpression()
        self.push(form, detail, [self.ended])

    def end_parts(self):
        while self.frames and self.frames[-1].ends_with_part():
            self.end_frame()

    def end_frame(self):
        """Ends what waits innermost, with the ended expression as its last part."""
        frame = self.frames.pop()
        self.nesting -= frame.around
        if frame.form == GROUP:
            self.kind = STRONGEST
        else:
            self.end_with(frame.form, frame.detail, frame.parts + [self.ended])

    def end_with(self, form, detail, parts):
        self.ended = Node(form, detail, parts)
        self.kind = kind_of(form, detail)

    def next_of_if(self, count):
        """Puts the ended expression into an if that has count parts so far."""
        if not self.frames or self.frames[-1].form != IF or len(self.frames[-1].parts) != count:
            raise NoExpression()
        self.keep_part()

    def next_in_brackets(self):
        if not self.frames or self.frames[-1].form not in (PICK, CALL):
            raise NoExpression()
        self.keep_part()

    def keep_part(self):
        """Hands the ended expression to what waits innermost, which then waits for one more."""
        frame = self.frames[-1]
        frame.parts.append(self.ended)
        self.ended = None

    def close_brackets(self):
        if not self.frames or not self.frames[-1].bracket:
            raise NoExpression()
        self.end_frame()


def expression_of(text):
    """The expression that a text is; its names may still be wrong and it may be too high."""
    parser = Parser(tokens_of(text))
    while parser.at < len(parser.tokens):
        parser.step()
    return parser.ended
