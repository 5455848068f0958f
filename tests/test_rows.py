"""Rows of numbers that are no code, and codes that are too high or too deep."""

import unittest

from helper import row, tree

BIG = 10 ** 18
A = [1, 0]


class NoCode(unittest.TestCase):
    def refused(self, rows):
        for numbers in rows:
            self.assertEqual(tree(3, numbers), [-3], numbers)

    def test_empty(self):
        self.refused([[]])

    def test_unknown_instructions(self):
        for first in (-1, 11, 12, 255, BIG, -BIG):
            self.refused([[first], [first, 0], [first, 0, 0], A + [first], A + [first, 0], [first] + A, A + A + [first, 4, 0]])
            self.refused([A + A + [first, 0], A + A + [first], A + A + [first, 1], A * 3 + [first, 0, 3]])

    def test_numbers_missing(self):
        self.refused([[0], [0, 1], [1], [2], [8], [8, 0]])
        self.refused([A + [3], A + A + [4], A + [7], A + [8, 0], A + A + [10], A + [6], A + [6, 2] + A + [5]])
        for text in ("a0 and a1", "a0 or a1", "if a0 then a1 else a2", "min(a0, 1)", "g1(a0, 2:3)", "t1(a0)", "-a0 + f1.free"):
            numbers = row(3, text)
            for count in range(len(numbers)):
                if numbers[:count] not in ([1, 0], [1, 0, 3, 0]):
                    self.refused([numbers[:count]])

    def test_numbers_too_many(self):
        for text in ("a0", "a0 and a1", "a0 or a1", "if a0 then a1 else a2", "min(a0, 1)", "g1(a0, 2:3)", "t1(a0)"):
            numbers = row(3, text)
            for more in ([0], [1], [9], [1, 0], [0, 1, 1], [4, 0], [10, 0], [5, 1], [6, 2], [5, 0], [6, 0], [8, 1, 0], [8, 1, 2]):
                self.refused([numbers + more])

    def test_numbers_that_no_expression_has(self):
        self.refused([[0, -1, 1], [0, 1, 0], [0, 0, 0], [0, 1, -1], [0, -1, -1], [0, BIG, -1], [0, -BIG, 1], [0, 1, -BIG]])
        self.refused([[0, 2, 2], [0, 0, 2], [0, 0, BIG], [0, 4, 6], [0, BIG, BIG], [0, BIG, 2], [0, 10, 5], [0, 2, BIG]])
        self.assertEqual(tree(0, [0, BIG, 3]), "1000000000000000000:3")

    def test_numbers_behind_the_first_far_outside(self):
        for wrong in (-1, -BIG, BIG):
            self.refused([[1, wrong], [2, wrong], A + [3, wrong], A + A + [4, wrong], A + [7, wrong], A + [8, wrong, 1]])
            self.refused([A + [8, 0, wrong], A + A + [10, wrong], A + [6, wrong] + A + [5, 1] + A, A + [6, 2] + A + [5, wrong] + A])
        self.refused([A + [3, 8], A + A + [4, 13], A + [7, 64], A + A + [10, 2], [8, 64, 0]])

    def test_too_few_on_the_stack(self):
        self.refused([[3, 0], [4, 0], A + [4, 0], [10, 0], A + [10, 1], [7, 0], [8, 0, 1], A + [8, 0, 2], A + A + [8, 0, 3]])
        self.refused([[6, 2] + A + [5, 1] + A, [9], A + [9], [6, 3] + A + [9, 5, 1, 0, 0, 1], [6, 2, 0, 1, 1, 5, 2] + A + [9]])
        self.refused([[3, 0] + A, [4, 0] + A + A, A + [4, 0] + A, [10, 0] + A + A])

    def test_too_many_on_the_stack(self):
        self.refused([A + A, A + A + A, A + A + A + [4, 0], A + A + [3, 0], A + A + A + [8, 0, 2], A * 3 + [10, 0]])
        self.refused([A + row(3, "a0 and a1"), row(3, "a0 or a1") + A, A + row(3, "if a0 then a1 else a2")])

    def test_parts_take_nothing_from_outside(self):
        self.refused([A + A + [6, 2] + [4, 0] + [5, 1] + A])
        self.refused([A + A + [6, 3] + A + [4, 0] + [5, 1] + A])
        self.refused([A + A + [6, 2] + A + [5, 2] + A + [4, 0]])
        self.refused([A + A + [6, 4] + A + [4, 0, 9, 5, 1, 0, 0, 1]])
        self.refused([A + A + [6, 2, 0, 1, 1, 5, 3] + A + [4, 0, 9]])
        self.assertEqual(tree(3, A + A + [6, 2] + A + [5, 1] + A + [4, 0]), "a0 + (if a0 then a0 else a0)")

    def test_parts_leave_one_alone(self):
        self.refused([A + [6, 3] + A + A + [5, 1] + A, A + [6, 2] + A + [5, 2] + A + A, A + [6, 3] + A + A + [5, 1] + A + [4, 0]])
        self.refused([A + [6, 4] + A + A + [9, 5, 1, 0, 0, 1], A + [6, 2, 0, 1, 1, 5, 3] + A + A + [9]])
        self.refused([A + [6, 1, 5, 1] + A, A + [6, 2] + A + [5, 0], A + [6, 2, 9, 5, 1, 0, 0, 1], A + [6, 2, 0, 1, 1, 5, 1, 9]])

    def test_jumps_too_long_or_too_short_by_one(self):
        for text in ("a0 and a1", "a0 or a1", "if a0 then a1 else a2", "-(a0 and -a1) + 1", "1 + (a0 or -a1)", "a0 and a1 or a2",
                     "(if a0 then -a1 else -a2) * 2", "g1(if a0 then 2 * a1 else a2, 3 and a0)", "a0 or (a1 and a2)"):
            numbers = row(3, text)
            places = jump_places(numbers)
            self.assertGreater(len(places), 1)
            for place in places:
                for by in (-1, 1):
                    wrong = list(numbers)
                    wrong[place] += by
                    answer = tree(3, wrong)
                    if answer != [-3]:
                        self.assertEqual(row(3, answer), wrong)
                        self.assertNotEqual(answer, text)

    def test_a_jump_that_is_off_by_one_in_the_plainest_rows(self):
        for by in (-1, 1):
            self.refused([A + [6, 3 + by] + A + [9, 5, 1, 0, 0, 1], A + [6, 3] + A + [9, 5, 1 + by, 0, 0, 1]])
            self.refused([A + [6, 2 + by, 0, 1, 1, 5, 2] + A + [9], A + [6, 2, 0, 1, 1, 5, 2 + by] + A + [9]])
            self.refused([A + [6, 2 + by] + A + [5, 1] + A, A + [6, 2] + A + [5, 1 + by] + A])

    def test_jumps_into_what_is_around(self):
        self.refused([A + [6, 8] + A + [6, 2] + A + [5, 3] + A + [5, 1] + A])
        self.refused([A + [6, 5] + A + [6, 5] + A + [5, 1] + A + [5, 1] + A])
        self.refused([A + [6, 2] + A + [5, 5] + A + [6, 2] + A + [5, 2] + A + A])

    def test_instructions_of_and_or_by_themselves(self):
        self.refused([A + [9], A + [5, 1] + A, A + [5, 1], [5, 1], [5, 0] + A, A + [5, 0], A + [6, 0], A + [6, 0] + A, A + [6, 1] + A])
        self.refused([A + [6, 3] + A + [9, 5, 1, 0, 1, 1], A + [6, 3] + A + [9, 5, 1] + A, A + [6, 2, 0, 0, 1, 5, 2] + A + [9]])
        self.refused([A + [6, 2] + A + [5, 2] + A + [9], A + [6, 3, 0, 1, 1, 3, 0, 5, 2] + A + [9], A + [6, 3] + A + [9, 5, 1, 0, 0, 1, 9]])
        self.refused([A + [6, 2] + A + [9, 5, 1, 0, 0, 1], A + [6, 3] + A + [9, 5, 2, 0, 0, 1, 3, 0], A + [6, 4] + A + [9, 3, 0, 5, 1, 0, 0, 1]])
        self.refused([A + [6, 4] + A + [9, 9, 5, 1, 0, 0, 1], A + [6, 2, 0, 1, 1, 5, 3] + A + [9, 9]])


def jump_places(numbers):
    """Where in a code the lengths of jumps stand."""
    lengths = (3, 2, 2, 2, 2, 2, 2, 2, 3, 1, 2)
    places = []
    at = 0
    while at < len(numbers):
        if numbers[at] in (5, 6):
            places.append(at + 1)
        at += lengths[numbers[at]]
    return places


class TooHigh(unittest.TestCase):
    def test_height(self):
        for step in ([3, 0], [3, 1], [3, 2], [7, 3], [8, 3, 1], [0, 2, 1, 4, 0], [0, 2, 1, 4, 6], [0, 2, 1, 10, 0],
                     [6, 3, 0, 2, 1, 9, 5, 1, 0, 0, 1], [6, 2, 0, 1, 1, 5, 2, 0, 2, 1, 9], [6, 2, 0, 2, 1, 5, 1, 0, 3, 1]):
            self.assertIsInstance(tree(1, A + step * 31), str, step)
            self.assertEqual(tree(1, A + step * 32), [-4], step)
            self.assertEqual(tree(1, A + step * 33), [-4], step)

    def test_far_too_high(self):
        self.assertEqual(tree(1, A + [3, 0] * 249), [-4])
        self.assertEqual(tree(1, A + [0, 1, 1, 4, 0] * 99), [-4])
        self.assertEqual(tree(1, A * 125 + [4, 0] * 124), [-4])

    def test_the_simple_expression_is_measured(self):
        self.assertEqual(tree(1, A * 125 + [10, 0] * 124), "min(" + ", ".join(["a0"] * 125) + ")")
        self.assertEqual(tree(1, A + (A + [10, 1]) * 31), "max(" * 31 + "a0" + ", a0)" * 31)
        self.assertEqual(tree(1, A + (A + [10, 1]) * 32), [-4])
        self.assertEqual(tree(1, A * 20 + [10, 0, 10, 1] * 9 + [10, 0]).count("("), 19)

    def test_one_number_wrong_goes_before(self):
        self.assertEqual(tree(1, A + [3, 0] * 248 + [3, 8]), [-3])
        self.assertEqual(tree(1, [1, 1] + [3, 0] * 249), [-3])


class TooDeep(unittest.TestCase):
    def test_deeper_than_high(self):
        # Brackets, if and what stands before them: 2 of height, 3 around one another.
        for what in ([3, 0], [3, 1]):
            for count in range(1, 16):
                numbers = deep_row(count, what)
                answer = tree(1, numbers)
                if 3 * count <= 32:
                    self.assertEqual(row(1, answer), numbers)
                else:
                    self.assertEqual(answer, [-4], count)

    def test_32_and_33_around_one_another(self):
        for more in (0, 1, 2):
            numbers = deep_row(10, [3, 0]) + [3, 0] * more
            self.assertEqual(row(1, tree(1, numbers)), numbers)
        for more in (3, 4):
            self.assertEqual(tree(1, deep_row(10, [3, 0]) + [3, 0] * more), [-4])

    def test_as_deep_as_high(self):
        self.assertEqual(tree(1, A + (A + [4, 6]) * 31), "(" * 30 + "a0" + " ^ a0)" * 30 + " ^ a0")
        self.assertEqual(tree(1, A * 32 + [4, 6] * 31), "a0" + " ^ a0" * 31)
        self.assertEqual(tree(1, A + (A + [4, 0, 3, 0]) * 15), "-(" * 15 + "a0" + " + a0)" * 15)

    def test_each_that_stands_around(self):
        """A row of 30 around one another, and two, then three more by each thing that may stand around."""
        deep = deep_row(10, [3, 0])
        around = {
            "minus": lambda x: x + [3, 0],
            "floor": lambda x: x + [3, 2],
            "right of ^": lambda x: A + x + [4, 6],
            "table": lambda x: x + [7, 0],
            "formula": lambda x: A + x + [8, 0, 2],
            "min": lambda x: x + A + [10, 0],
            "if condition": lambda x: x + [6, 2] + A + [5, 1] + A,
            "if then": lambda x: A + [6, 1 + instructions(x)] + x + [5, 1] + A,
            "if else": lambda x: A + [6, 2] + A + [5, instructions(x)] + x,
        }
        for what, put in around.items():
            twice = put(put(deep))
            self.assertIsInstance(tree(1, twice), str, what)
            self.assertEqual(row(1, tree(1, twice)), twice, what)
            self.assertEqual(tree(1, put(twice)), [-4], what)
        # not is weaker than -: not -x is two, -(not x) is two and brackets.
        self.assertIsInstance(tree(1, deep + [3, 1, 3, 1]), str)
        self.assertEqual(tree(1, deep + [3, 1, 3, 1, 3, 1]), [-4])
        self.assertEqual(tree(1, deep + [3, 1, 3, 0]), [-4])
        # Around the left part of ^ there are only its brackets.
        self.assertIsInstance(tree(1, deep + A + [4, 6]), str)
        self.assertIsInstance(tree(1, deep + A + [4, 6] + A + [4, 6]), str)
        self.assertEqual(tree(1, deep + (A + [4, 6]) * 3), [-4])

    def test_joining_otherwise_stands_around_nothing(self):
        deep = deep_row(10, [3, 0])
        joined = {
            "and, left": deep + [6, 3] + A + [9, 5, 1, 0, 0, 1],
            "and, right": A + [6, 2 + instructions(deep)] + deep + [9, 5, 1, 0, 0, 1],
            "or, left": deep + [6, 2, 0, 1, 1, 5, 2] + A + [9],
            "or, right": A + [6, 2, 0, 1, 1, 5, 1 + instructions(deep)] + deep + [9],
        }
        for number in (0, 1, 2, 3, 4, 5, 7, 8, 9, 10, 11, 12):
            joined[f"{number}, left"] = deep + A + [4, number]
            joined[f"{number}, right"] = A + deep + [4, number]
        for what, numbers in joined.items():
            self.assertIsInstance(tree(1, numbers + [3, 2] * 2), str, what)
            self.assertEqual(row(1, tree(1, numbers + [3, 2] * 2)), numbers + [3, 2] * 2, what)
            self.assertEqual(tree(1, numbers + [3, 2] * 3), [-4], what)


def deep_row(count, what):
    """The code of -(if 1 then 2 else -(if 1 then 2 else ... a0)), or with not in the place of -."""
    numbers = list(A)
    for step in range(count):
        numbers = [0, 1, 1, 6, 2, 0, 2, 1, 5, instructions(numbers)] + numbers + what
    return numbers


def instructions(numbers):
    """How many instructions a code has."""
    lengths = (3, 2, 2, 2, 2, 2, 2, 2, 3, 1, 2)
    count = 0
    at = 0
    while at < len(numbers):
        at += lengths[numbers[at]]
        count += 1
    return count


if __name__ == "__main__":
    unittest.main()
