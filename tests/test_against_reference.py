"""Random rows and texts, right ones and such with faults: the program must answer as the reference does."""

import random
import unittest
from fractions import Fraction

import reference
import stackback.stackcode
from helper import canon, code, row, same, tree

N = 3
BIG = 10 ** 18
FRAGMENTS = (
    list("()-+*/%^=<>,.:_019abfgtzAZ#")
    + ["if ", " then ", " else ", " and ", " or ", "not ", "min(", "max(", "floor(", "den(", "g0(", "t1(", "a0", "a3", "f1.free", "clock"]
    + ["//", "<=", "<>", ">=", " ", "1:2", "2.50", "0:1", "1:0", "min.x", "if a0 then 1 else "]
)
TOKENS = (
    "a0 a1 1 0 1:2 g0 clock x if then else and or not not - - + * / // % ^ ^ = < >= ( ( ( ) ) ) , "
    "floor( min( max( g0( t0( abs( if if then then else else"
).split()


def random_leaf(chance):
    return chance.choice((
        ("name", f"a{chance.randrange(N)}", ()), ("name", chance.choice(list(reference.READ)), ()),
        ("name", f"g{chance.randrange(64)}", ()), ("number", Fraction(0), ()), ("number", Fraction(1), ()),
        ("number", Fraction(chance.randrange(9), chance.randrange(1, 9)), ()),
    ))


def random_tree(chance, depth):
    if depth <= 0 or chance.random() < 0.1:
        return random_leaf(chance)

    def parts(count):
        return tuple(random_tree(chance, depth - 1 - chance.randrange(2)) for part in range(count))

    form = chance.choice(("and", "or", "if", "and", "or", "if", "one", "one", "two", "two", "pick", "formula", "table"))
    if form == "one":
        return ("one", chance.choice(reference.ONE + ["-", "not"] * 3), parts(1))
    if form == "two":
        return ("two", chance.choice(reference.TWO), parts(2))
    if form == "pick":
        return ("pick", chance.choice(("min", "max")), parts(chance.randrange(1, 5)))
    if form == "formula":
        return ("call", f"g{chance.randrange(64)}", parts(chance.randrange(1, 4)))
    if form == "table":
        return ("call", f"t{chance.randrange(64)}", parts(1))
    return (form, 0, parts(3 if form == "if" else 2))


def high_tree(chance, height):
    """A tree of this height, before it is made simple, in which each has at most one part that is no leaf."""
    leaf = ("name", "a0", ())
    found = leaf
    for step in range(height - 1):
        form, detail, count = chance.choice((
            ("one", "-", 1), ("one", "not", 1), ("two", "^", 2), ("two", "+", 2), ("pick", "min", 2), ("pick", "min", 3), ("pick", "max", 2),
            ("if", 0, 3), ("or", 0, 2), ("call", "g0", 1)))
        parts = [leaf] * count
        parts[chance.choice((0, count - 1))] = found
        found = (form, detail, tuple(parts))
    return found


def random_number(chance):
    """A number that is 0, 1, small, large, or at the bounds."""
    return chance.choice((
        Fraction(0), Fraction(1), Fraction(chance.randrange(10)), Fraction(chance.randrange(10), chance.randrange(1, 10)),
        Fraction(chance.choice((BIG, BIG - 1, BIG // 2, 10 ** 9, 63, 64, 65))),
        Fraction(chance.choice((1, 2, 3, BIG - 1)), chance.choice((BIG, BIG - 1, BIG // 2, 10 ** 9, 10 ** 9 + 1))),
        Fraction(chance.randrange(BIG + 1), chance.randrange(1, BIG + 1)),
    ))


def with_numbers(chance, tree, share):
    """The tree with numbers, half of them with a - before, in the place of a share of its leaves."""
    form, detail, parts = tree
    if parts:
        return (form, detail, tuple(with_numbers(chance, part, share) for part in parts))
    if chance.random() >= share:
        return tree
    number = ("number", random_number(chance), ())
    return chance.choice((number, ("one", "-", (number,))))


def written(chance, tree):
    """A tree as a text with brackets, blanks, zeros and words of one part that are not needed."""
    form, detail, parts = tree
    if form == "number":
        times = chance.choice((1, 1, 2, 10))
        text = f"0{detail.numerator * times}:{detail.denominator * times}" if chance.random() < 0.5 else reference.printed(tree)
    elif form == "name":
        text = detail
    else:
        inner = [written(chance, part) for part in parts]
        blank = chance.choice(("", " ", "\t", "  "))
        if form in ("and", "or"):
            text = f"({inner[0]}){blank}{form}{blank}({inner[1]})"
        elif form == "two":
            text = f"({inner[0]}){blank}{detail}{blank}({inner[1]})"
        elif form == "if":
            text = f"if ({inner[0]}){blank}then ({inner[1]})\nelse {inner[2]}"
        else:
            text = f"{detail}{blank}(" + f"{blank},{blank}".join(inner) + ")"
    return chance.choice(("{}",) * 6 + ("({})", "min({})", "max({})", " {} ")).format(text)


def with_fault(chance, rows):
    """The instructions with one of them left out, doubled, moved, or with a number changed."""
    rows = list(rows)
    place = chance.randrange(len(rows))
    other = chance.randrange(len(rows))
    what = chance.randrange(6)
    if what == 0:
        rows.pop(place)
    elif what == 1:
        rows.insert(place, rows[other])
    elif what == 2:
        rows[place], rows[other] = rows[other], rows[place]
    elif what == 3:
        rows[place] = tuple(number + chance.choice((0, -1, 1)) for number in rows[place])
    else:
        jumps = [i for i in range(len(rows)) if rows[i][0] in (5, 6)] or [place]
        place = chance.choice(jumps)
        rows[place] = rows[place][:-1] + (rows[place][-1] + chance.choice((-2, -1, 1, 2)),)
    return rows


def with_changed_signs(chance, text):
    for step in range(chance.randrange(1, 4)):
        place = chance.randrange(len(text) + 1)
        fragment = chance.choice(("", chance.choice(FRAGMENTS)))
        text = text[:place] + fragment + text[place + chance.randrange(2):]
    return text


class AgainstReference(unittest.TestCase):
    def held_row(self, numbers):
        wanted = reference.tree(N, numbers)
        answer = tree(N, numbers)
        self.assertEqual(answer, wanted[1] if wanted[0] == 0 else wanted, numbers)
        return answer if wanted[0] == 0 else None

    def held_text(self, text):
        wanted = reference.code(N, text)
        self.assertEqual(code(N, text), wanted, text)
        return wanted[0]

    def test_rows(self):
        chance = random.Random(21)
        taken = 0
        for round_number in range(3000):
            rows = reference.rows_of(random_tree(chance, chance.randrange(1, 6)), N)
            numbers = reference.flat(rows)
            if len(numbers) > 300:
                continue
            text = self.held_row(numbers)
            self.assertIsNotNone(text)
            self.assertEqual(row(N, text), numbers)
            for fault in range(3):
                wrong = reference.flat(with_fault(chance, rows))
                found = self.held_row(wrong)
                if found is not None:
                    taken += 1
                    self.assertEqual(row(N, found), wrong)
        self.assertGreater(taken, 100)

    def test_short_rows_of_any_instructions(self):
        chance = random.Random(22)
        some = [(1, 0), (1, 0), (0, 1, 1), (0, 0, 1), (6, 2), (6, 3), (6, 4), (6, 7), (5, 1), (5, 2), (5, 3), (9,), (9,), (3, 0),
                (4, 0), (10, 0), (10, 1), (8, 0, 2)]
        for round_number in range(20000):
            rows = [(1, 0)] + [chance.choice(some) for step in range(chance.randrange(1, 9))]
            self.held_row(reference.flat(rows))

    def test_texts(self):
        chance = random.Random(23)
        counts = {}
        for round_number in range(4000):
            text = reference.printed(random_tree(chance, chance.randrange(1, 6)))
            self.held_text(text)
            for step in range(2):
                answer = self.held_text(with_changed_signs(chance, text))
                counts[answer] = counts.get(answer, 0) + 1
        for answer in (0, -6, -8):
            self.assertGreater(counts[answer], 50)

    def held_canon(self, text):
        """Gives back what canon tells, or None if the text is refused."""
        wanted = reference.canon(N, text)
        answer = canon(N, text)
        self.assertEqual(answer, wanted[1] if wanted[0] == 0 else wanted, text)
        return answer if wanted[0] == 0 else None

    def test_canon_and_same(self):
        chance = random.Random(27)
        counts = {}
        changed = 0
        before = "a0"
        for round_number in range(2000):
            text = written(chance, random_tree(chance, chance.randrange(1, 6)))
            found = self.held_canon(text)
            if found is not None:
                changed += found.replace(" ", "") != text.replace(" ", "")
                self.assertEqual(self.held_canon(found), found)
                self.assertEqual(same(N, text, found), [0, 1])
            other = with_changed_signs(chance, text)
            self.held_canon(other)
            for first, second in ((text, other), (other, text), (before, other), (other, other)):
                answer = same(N, first, second)
                self.assertEqual(answer, reference.same(N, first, second), (first, second))
                counts[tuple(answer)] = counts.get(tuple(answer), 0) + 1
            before = other
        self.assertGreater(changed, 700)
        for answer in ((0, 0), (0, 1), (-6,), (-8,)):
            self.assertGreater(counts[answer], 100)

    def test_rows_of_tokens(self):
        chance = random.Random(24)
        taken = 0
        for round_number in range(40000):
            text = " ".join(chance.choice(TOKENS) for step in range(chance.randrange(1, 9)))
            taken += self.held_text(text) == 0
        self.assertGreater(taken, 500)

    def held_folded_and_measured(self, numbers):
        """Gives back what comes of folding, or None if the code is refused."""
        wanted = reference.fold(N, numbers)
        self.assertEqual(stackback.stackcode.fold(N, numbers), wanted, numbers)
        self.assertEqual(stackback.stackcode.measure(N, numbers), reference.measure(N, numbers), numbers)
        return wanted[2:] if wanted[0] == 0 else None

    def test_folding_and_measuring(self):
        chance = random.Random(25)
        changed = 0
        for round_number in range(4000):
            found = with_numbers(chance, random_tree(chance, chance.randrange(1, 6)), chance.choice((0.3, 0.6, 0.9, 1)))
            rows = reference.rows_of(found, N)
            numbers = reference.flat(rows)
            if len(numbers) > 300:
                continue
            after = self.held_folded_and_measured(numbers)
            self.assertIsNotNone(after)
            changed += after != numbers
            # What comes of folding is a code that is taken again.
            self.assertIsNotNone(self.held_folded_and_measured(after))
            self.assertLessEqual(len(after), len(numbers))
            self.held_folded_and_measured(reference.flat(with_fault(chance, rows)))
        self.assertGreater(changed, 2000)

    def test_folding_of_two_numbers(self):
        chance = random.Random(26)
        for round_number in range(6000):
            parts = tuple(with_numbers(chance, ("name", "a0", ()), 1) for part in range(2))
            found = ("two", chance.choice(reference.TWO), parts)
            self.held_folded_and_measured(reference.flat(reference.rows_of(found, N)))

    def held_parts(self, numbers):
        """Gives back how many parts there are, or None if the code is refused."""
        wanted = reference.parts(N, numbers)
        self.assertEqual(stackback.stackcode.parts(N, numbers), wanted, numbers)
        return wanted[1] if wanted[0] == 0 else None

    def held_put(self, i, numbers, other):
        wanted = reference.put(N, i, numbers, other)
        self.assertEqual(stackback.stackcode.put(N, i, numbers, other), wanted, (i, numbers, other))
        return wanted

    def test_parts_and_put(self):
        chance = random.Random(28)
        counts = {}
        others = [[1, 0]]
        for round_number in range(1000):
            rows = reference.rows_of(random_tree(chance, chance.randrange(1, 6)), N)
            numbers = reference.flat(rows)
            if len(numbers) > 300:
                continue
            count = self.held_parts(numbers)
            self.assertIsNotNone(count)
            wrong = reference.flat(with_fault(chance, rows))
            self.held_parts(wrong)
            for i in (0, count - 1, count, chance.randrange(-2, count + 2), chance.randrange(count)):
                answer = self.held_put(i, numbers, chance.choice(others))
                counts[answer[0]] = counts.get(answer[0], 0) + 1
                if answer[0] == 0:
                    # What comes is a code again.
                    self.assertIsNotNone(self.held_parts(answer[2:]))
            self.held_put(0, wrong, numbers)
            self.held_put(count - 1, numbers, wrong)
            others = others[-20:] + [numbers]
        for answer in (0, -12):
            self.assertGreater(counts[answer], 200)

    def test_putting_wide_into_wide(self):
        chance = random.Random(30)
        counts = {}
        leaves = ("a0", "1", "g0", "-a1", "g1(1, 2)")
        for round_number in range(60):
            numbers, other = [
                row(N, chance.choice(("min", "max")) + "(" + ", ".join(chance.choice(leaves) for part in range(chance.randrange(20, 60))) + ")")
                for code_number in range(2)
            ]
            for i in (1, chance.randrange(20), self.held_parts(numbers) - 1):
                answer = self.held_put(i, numbers, other)
                counts[answer[0]] = counts.get(answer[0], 0) + 1
        for answer in (0, -2):
            self.assertGreater(counts[answer], 20)

    def test_putting_high_into_high(self):
        chance = random.Random(29)
        counts = {}
        for round_number in range(400):
            first, second = high_tree(chance, chance.randrange(8, 31)), high_tree(chance, chance.randrange(1, 24))
            numbers, other = (reference.flat(reference.rows_of(found, N)) for found in (first, second))
            count = self.held_parts(numbers)
            if count is None:
                continue
            for i in [count - 1] + [chance.randrange(count) for step in range(4)]:
                answer = self.held_put(i, numbers, other)
                counts[answer[0]] = counts.get(answer[0], 0) + 1
        for answer in (0, -4):
            self.assertGreater(counts[answer], 100)


if __name__ == "__main__":
    unittest.main()
