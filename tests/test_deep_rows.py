"""Rows of up to 500 numbers in which and, or, if are nested as deep as fits: right ones, and with one number wrong."""

import random
import unittest

import reference
from helper import row, tree

A = ("name", "a0", ())
ONE = ("number", 1, ())
ZERO = ("number", 0, ())
JUMPS = (5, 6)

# Each puts a tree into one place of and, or, if.
STEPS = [
    lambda x: ("and", 0, (x, A)), lambda x: ("and", 0, (A, x)), lambda x: ("or", 0, (x, A)), lambda x: ("or", 0, (A, x)),
    lambda x: ("if", 0, (x, A, A)), lambda x: ("if", 0, (A, x, A)), lambda x: ("if", 0, (A, A, x)),
    lambda x: ("if", 0, (A, ONE, x)), lambda x: ("if", 0, (A, x, ZERO)),
]


def written(tree_of_steps):
    return reference.flat(reference.rows_of(tree_of_steps, 1))


def filled(steps):
    """As many of the steps, one around the other, as fit into 500 numbers; its depth goes along."""
    found = A
    depth = 0
    while True:
        larger = steps[depth % len(steps)](found)
        if len(written(larger)) > 500:
            return found, depth
        found = larger
        depth += 1


def mixed(chance, deepest):
    """A tree of and, or, if whose parts are all filled, until there is no room."""
    if deepest == 0 or chance.random() < 0.15:
        return chance.choice((A, ONE, ZERO))
    form = chance.choice(("and", "or", "if"))
    return (form, 0, tuple(mixed(chance, deepest - 1) for part in range(3 if form == "if" else 2)))


def large_mixed(chance):
    """A mixed tree whose code has 300 to 500 numbers."""
    while True:
        found = mixed(chance, chance.randrange(5, 9))
        if 300 <= len(written(found)) <= 500:
            return found


def fractions(found):
    """The tree with its numbers as the reference wants them."""
    form, detail, parts = found
    return (form, reference.Fraction(detail) if form == "number" else detail, tuple(fractions(part) for part in parts))


class DeepRows(unittest.TestCase):
    def held(self, numbers):
        """The program must answer as the reference does."""
        wanted = reference.tree(1, numbers)
        answer = tree(1, numbers)
        self.assertEqual(answer, wanted[1] if wanted[0] == 0 else wanted, numbers)
        return wanted[0]

    def test_right_ones_by_one_step(self):
        for step in STEPS:
            found, depth = filled([lambda x, step=step: fractions(step(x))])
            self.assertGreater(depth, 40)
            self.assertEqual(tree(1, written(found)), [-4])

    def test_right_ones_that_are_not_too_high(self):
        for step in STEPS:
            found = A
            for height in range(2, 33):
                found = fractions(step(found))
                numbers = written(found)
                self.assertEqual(self.held(numbers), 0)
                self.assertEqual(row(1, tree(1, numbers)), numbers)
            self.assertEqual(tree(1, written(fractions(step(found)))), [-4])

    def test_one_number_wrong_in_rows_of_one_step(self):
        for step in STEPS:
            numbers = written(filled([lambda x, step=step: fractions(step(x))])[0])
            for place in range(0, len(numbers), 7):
                for by in (-1, 1):
                    self.held(numbers[:place] + [numbers[place] + by] + numbers[place + 1:])

    def test_steps_in_turn(self):
        chance = random.Random(11)
        for round_number in range(30):
            steps = [chance.choice(STEPS) for step in range(chance.randrange(2, 12))]
            numbers = written(filled([lambda x, step=step: fractions(step(x)) for step in steps])[0])
            self.assertEqual(self.held(numbers), -4)
            for wrong in range(12):
                place = chance.randrange(len(numbers))
                changed = list(numbers)
                changed[place] += chance.choice((-2, -1, 1, 2, 10 ** 17))
                self.held(changed)

    def test_mixed(self):
        chance = random.Random(12)
        taken = 0
        for round_number in range(40):
            found = fractions(large_mixed(chance))
            numbers = written(found)
            self.assertEqual(self.held(numbers), 0)
            self.assertEqual(tree(1, numbers), reference.printed(found))
            for wrong in range(15):
                place = chance.randrange(len(numbers))
                changed = list(numbers)
                changed[place] += chance.choice((-1, 1))
                taken += self.held(changed) == 0
        self.assertGreater(taken, 0)

    def test_rows_of_jumps_alone(self):
        for numbers in ([6, 2] * 250, [5, 1] * 250, [1, 0] + [6, 2] * 249, [1, 0, 6, 2] * 125, [1, 0, 6, 2, 0, 1, 1, 5, 2] * 55,
                        [1, 0, 6, 3, 1, 0, 9, 5, 1] * 55, [1, 0, 6, 200] * 125, [1, 0, 6, 2, 1, 0, 5, 400] * 62, [9] * 500,
                        [1, 0] + [6, 2, 0, 1, 1, 5, 2] * 70, [1, 0] * 100 + [6, 2, 1, 0, 5, 1] * 50):
            self.assertEqual(tree(1, numbers), [-3])


if __name__ == "__main__":
    unittest.main()
