"""What tree, fold, measure, parts and put have in common: when a code is refused, in which order, and what is left alone."""

import sys
import unittest

from stackback.stackcode import fold, measure, parts, put, tree
from helper import Watched, row

BIG = 10 ** 18
A = [1, 0]
# 125 parts of 2 numbers, 124 joinings of 2, and - before it all.
CODE_500 = A * 125 + [10, 0] * 124 + [3, 0]
# The same with a number of 3 as its first part.
CODE_501 = [0, 1, 1] + A * 124 + [10, 0] * 124 + [3, 0]
NO_CODES = (
    [], [77], [-1], [11, 0], [1], [0, 1], A + A, [3, 0], A + [4, 0], A + [9], A + [5, 0], A + [6, 1] + A, [1, 1], [1, -1], [2, 2], [2, 63],
    [2, 192, 3, 8], A + [3, -1], A + A + [4, 13], A + [7, 64], [8, 64, 0], [8, 0, 1], A * 9 + [8, 0, 9], A + A + [10, 2], [0, 2, 4],
    [0, -1, 1], [0, 1, 0], [0, 1, -1], [0, BIG + 1, 1], [0, 1, BIG + 1], [0, 0, 2], A + [6, 3] + A + [9, 5, 1, 0, 1, 1],
    A + [6, 2, 0, 1, 1, 5, 3] + A + [9], A + [6, 2] + A + [5, 2] + A, A + [6, BIG] + A + [5, 1] + A, [BIG], [-BIG],
)


def chosen(inner):
    """The code of if a0 then a0 else inner; inner is the code of an expression with count instructions."""
    numbers, count = inner
    return A + [6, 2] + A + [5, count] + numbers, count + 4


def negated(inner):
    return inner[0] + [3, 0], inner[1] + 1


def deep(more):
    """Ten times -(if a0 then a0 else ..), 3 around one another each, and - more times before it: height 21 + more."""
    inner = (A, 1)
    for step in range(10):
        inner = negated(chosen(inner))
    for step in range(more):
        inner = negated(inner)
    return inner[0]


def put_first(n, numbers):
    """What put answers where the second code is right."""
    return put(n, 0, numbers, [0, 1, 1])


def put_second(n, numbers):
    """What put answers where the first code is right."""
    return put(n, 0, [0, 1, 1], numbers)


def put_both(n, numbers):
    return put(n, 0, numbers, numbers)


CALLS = (tree, fold, measure, parts, put_first, put_second, put_both)


class CodeCalls(unittest.TestCase):
    def refused(self, n, numbers, answer):
        for call in CALLS:
            with self.subTest(call=call.__name__, n=n, numbers=numbers):
                self.assertEqual(call(n, numbers), [answer])

    def taken(self, n, numbers):
        for call in CALLS:
            with self.subTest(call=call.__name__, n=n, numbers=numbers):
                self.assertEqual(call(n, numbers)[0], 0)


class Refused(CodeCalls):
    def test_parameters(self):
        for n in (-1, 9, -2, 10, BIG, -BIG):
            self.refused(n, [0, 1, 1], -1)
        for n in range(9):
            self.assertEqual(fold(n, [0, 1, 1, 0, 2, 1, 4, 0]), [0, 3, 0, 3, 1])
            self.assertEqual(measure(n, [0, 1, 1]), [0, 1, 1, 1, 0, 1])
            self.assertEqual(parts(n, [0, 1, 1]), [0, 1, 0, 0, 1, 1])
            self.assertEqual(put(n, 0, [0, 1, 1], [0, 2, 1]), [0, 3, 0, 2, 1])
            self.refused(n, [1, n], -3)
            if n > 0:
                self.assertEqual(fold(n, [1, n - 1]), [0, 2, 1, n - 1])
                self.assertEqual(measure(n, [1, n - 1]), [0, 1, 1, 1, 1, 1])
                self.assertEqual(parts(n, [1, n - 1]), [0, 1, 1, 0, 1, 1])
                self.assertEqual(put(n, 0, [1, n - 1], [1, n - 1]), [0, 2, 1, n - 1])

    def test_length(self):
        self.assertEqual((len(CODE_500), len(CODE_501)), (500, 501))
        self.assertEqual(fold(1, CODE_500), [0, 500] + CODE_500)
        self.assertEqual(measure(1, CODE_500), [0, 250, 3, 127, 1, 125])
        self.assertEqual(parts(1, CODE_500)[:10], [0, 127, 2, 0, 250, 3, 7, 0, 249, 2])
        self.assertEqual(put_both(1, CODE_500), [0, 500] + CODE_500)
        self.refused(1, CODE_501, -2)
        self.assertEqual(fold(1, CODE_501[:-2]), [0, 499] + CODE_501[:-2])
        self.refused(1, A * 1500, -2)
        # 100 standing numbers become one; its length before that is what counts.
        hundred = [0, 1, 1] * 100 + [10, 0] * 99
        self.assertEqual(fold(0, hundred + [3, 0]), [0, 5, 0, 1, 1, 3, 0])
        self.refused(0, hundred + [3, 0] * 2, -2)

    def test_no_code(self):
        for numbers in NO_CODES:
            self.refused(1, numbers, -3)

    def test_height(self):
        for step in ([3, 0], [3, 1], [3, 4], [7, 0], [8, 3, 1]):
            self.taken(1, A + step * 31)
            self.refused(1, A + step * 32, -4)
            self.refused(1, A + step * 33, -4)
        self.assertEqual(measure(1, A + [3, 2] * 31), [0, 32, 32, 32, 1, 1])
        self.assertEqual(measure(1, A + (A + [4, 0]) * 31), [0, 63, 32, 63, 1, 2])
        self.assertEqual(measure(1, A * 32 + [4, 0] * 31), [0, 63, 32, 63, 1, 32])
        self.refused(1, A + (A + [4, 0]) * 32, -4)
        self.refused(1, A * 33 + [4, 0] * 32, -4)

    def test_height_before_folding(self):
        self.assertEqual(fold(0, [0, 5, 1] + [3, 0] * 31), [0, 5, 0, 5, 1, 3, 0])
        self.refused(0, [0, 5, 1] + [3, 0] * 32, -4)
        self.assertEqual(fold(0, [0, 1, 1] + [0, 1, 1, 4, 0] * 31), [0, 3, 0, 32, 1])
        self.refused(0, [0, 1, 1] + [0, 1, 1, 4, 0] * 32, -4)

    def test_the_simple_expression_is_what_has_a_height(self):
        numbers = A * 60 + [10, 1] * 59
        self.assertEqual(measure(1, numbers), [0, 119, 2, 61, 1, 60])
        self.assertEqual(fold(1, numbers), [0, len(numbers)] + numbers)
        self.refused(1, A + (A + [10, 1]) * 32, -4)

    def test_around_one_another(self):
        self.taken(1, deep(2))
        self.refused(1, deep(3), -4)
        self.assertEqual(measure(1, deep(2))[2], 23)
        self.assertEqual(fold(1, deep(2)), [0, len(deep(2))] + deep(2))

    def test_around_one_another_before_folding(self):
        # -(not ..) is 3 around one another, and height 2.
        self.assertEqual(fold(0, [0, 2, 1] + [3, 1, 3, 0] * 10), [0, 5, 0, 1, 1, 3, 0])
        self.assertEqual(fold(0, [0, 2, 1] + [3, 1, 3, 0] * 10 + [3, 0] * 2), [0, 5, 0, 1, 1, 3, 0])
        self.refused(0, [0, 2, 1] + [3, 1, 3, 0] * 10 + [3, 0] * 3, -4)
        self.refused(0, [0, 2, 1] + [3, 1, 3, 0] * 11, -4)


class Order(CodeCalls):
    """-1, then -2, -3, -4."""

    def test_parameters_go_first(self):
        for numbers in (CODE_501, [77] * 501, A + [3, 0] * 40, deep(3)) + NO_CODES:
            self.refused(-1, numbers, -1)
            self.refused(9, numbers, -1)

    def test_length_goes_before_the_rest(self):
        self.refused(1, [77] * 501, -2)
        self.refused(1, [77] * 500, -3)
        self.refused(1, A + [3, 0] * 250, -2)
        self.refused(1, A + [3, 0] * 249, -4)
        self.refused(1, [-BIG] * 3000, -2)
        self.refused(0, CODE_501, -2)
        self.refused(0, CODE_500, -3)

    def test_no_code_goes_before_height(self):
        self.refused(1, A + [3, 0] * 40 + [9], -3)
        self.refused(0, A + [3, 0] * 40, -3)
        self.refused(1, deep(3) + A, -3)


class LeftAlone(unittest.TestCase):
    def test_lists_are_as_they_were(self):
        rows = [row(2, text) for text in (
            "if 1 + 1 then min(a1, 2) else a0 or a1", "min(1, 2, 3)", "a0 + 0", "1 / 0", "g0(1 - 2, a0)", "0 and a0", "a0 and a1 or -2")]
        for numbers in rows + [CODE_500, CODE_501, A + [3, 0] * 40, deep(3)] + list(NO_CODES):
            for call in CALLS:
                for n in (2, 9):
                    given = list(numbers)
                    answer = call(n, Watched(given))
                    self.assertEqual(call(n, given), answer)
                    self.assertEqual(given, numbers)

    def test_nothing_is_kept(self):
        for call in CALLS:
            for text in ("a0", "a0 + 0", "min(a0, a1)", "1 - 3", "1 / 0"):
                numbers = row(2, text)
                first = call(2, numbers)
                wanted = list(first)
                first.clear()
                call(2, [77])
                call(9, [])
                call(2, row(2, "if 0 then g0(1) else max(7, 8)"))
                self.assertEqual(call(2, numbers), wanted)
                self.assertEqual(numbers, row(2, text))

    def test_answers_are_lists_of_whole_numbers(self):
        for text in ("a0", "1 < 2", "not 0", "0 and a0", "3 or a0", "1 and 2", "0 or -1", "sign(-5)", "2 = 2", "not 1:2", "a0 and a1",
                     "min(1 < 2, 0)", "floor(7:2)", "2 ^ 0"):
            for call in CALLS:
                for n in (1, 2, 9):
                    answer = call(n, row(2, text))
                    self.assertIs(type(answer), list)
                    self.assertEqual({type(number) for number in answer}, {int})

    def test_calls_within_one_another_stay_few(self):
        depth = 0
        frame = sys._getframe()
        while frame:
            depth += 1
            frame = frame.f_back
        limit = sys.getrecursionlimit()
        rows = [A + [3, 0] * 249, A * 125 + [4, 0] * 124, CODE_500, A + [3, 2] * 31, A + (A + [4, 0]) * 31, A * 32 + [4, 0] * 31, deep(2),
                [0, 1, 1] * 32 + [4, 0] * 31, [0, 1, 1] + [0, 1, 1, 4, 0] * 31]
        try:
            sys.setrecursionlimit(depth + 150)
            answers = [[call(1, numbers)[0] for numbers in rows] for call in CALLS]
        finally:
            sys.setrecursionlimit(limit)
        self.assertEqual(answers, [[-4, -4, 0, 0, 0, 0, 0, 0, 0]] * len(CALLS))

    def test_arguments_by_name(self):
        self.assertEqual(fold(n=1, code=[0, 1, 1, 3, 1]), [0, 3, 0, 0, 1])
        self.assertEqual(measure(n=1, code=[1, 0]), [0, 1, 1, 1, 1, 1])
        self.assertEqual(parts(n=1, code=[1, 0]), [0, 1, 1, 0, 1, 1])
        self.assertEqual(put(n=1, i=0, code=[1, 0], other=[0, 1, 1]), [0, 3, 0, 1, 1])
        self.assertEqual(put(other=[1, 0], code=[0, 2, 1, 3, 0], i=1, n=1), [0, 4, 1, 0, 3, 0])


if __name__ == "__main__":
    unittest.main()
