"""The bounds of n, of codes and of texts; and, where two refusals are due, the one that is told first."""

import sys
import unittest

import stackback.stackcode
from helper import Watched, code, row, signs, tree

BIG = 10 ** 18
A = [1, 0]
LONG = "a0" + " " * 1998
TOO_LONG = LONG + " "
CODE_500 = A * 125 + [10, 0] * 124 + [3, 0]
NO_EXPRESSION = "a0 +"
TOO_HIGH = " + ".join(["a0"] * 33)
WRONG_NAME = "x"
# 126 parts of 2 numbers and 125 joinings of 2.
CODE_TOO_LONG = "min(" + ", ".join(["a0"] * 126) + ")"


class Parameters(unittest.TestCase):
    def test_from_0_to_8(self):
        for n in range(9):
            self.assertEqual(code(n, "1"), [0, 3, 0, 1, 1])
            self.assertEqual(tree(n, [0, 1, 1]), "1")

    def test_others(self):
        for n in (-1, 9, 10, -2, 64, BIG, -BIG):
            self.assertEqual(code(n, "1"), [-1])
            self.assertEqual(stackback.stackcode.tree(n, [0, 1, 1]), [-1])


class CodeLength(unittest.TestCase):
    def test_500_and_501_handed_in(self):
        self.assertEqual(len(CODE_500), 500)
        self.assertEqual(tree(1, CODE_500), "-min(" + ", ".join(["a0"] * 125) + ")")
        for more in (1, 2, 3, 500, 2500):
            self.assertEqual(tree(1, CODE_500 + [9] * more), [-2])
        self.assertEqual(tree(1, A * 126 + [10, 0] * 125), [-2])

    def test_500_and_more_that_come_of_a_text(self):
        text = "-min(" + ", ".join(["a0"] * 125) + ")"
        self.assertEqual(row(1, text), CODE_500)
        self.assertEqual(code(1, "-" + text), [-2])
        self.assertEqual(code(1, CODE_TOO_LONG), [-2])
        # 100 parts of 3 numbers and 99 joinings of 2: 498 in all.
        text = "min(" + ", ".join(["1"] * 100) + ")"
        self.assertEqual(len(row(0, text)), 498)
        self.assertEqual(len(row(0, "-" + text)), 500)
        self.assertEqual(len(row(1, text.replace("(1", "(a0", 1))), 497)
        self.assertEqual(len(row(1, "g0(" + text.replace("(1", "(a0", 1) + ")")), 500)
        self.assertEqual(code(0, "g0(" + text + ")"), [-2])
        self.assertEqual(code(0, "min(" + ", ".join(["1"] * 333) + ")"), [-2])

    def test_a_code_of_few_numbers_from_many_signs(self):
        self.assertEqual(row(1, "min(" * 31 + "a0" + ")" * 31), A)


class TextLength(unittest.TestCase):
    def test_2000_and_2001(self):
        self.assertEqual(len(LONG), 2000)
        self.assertEqual(code(1, LONG), [0, 2, 1, 0])
        self.assertEqual(code(1, TOO_LONG), [-5])
        self.assertEqual(code(1, " " * 2000), [-6])
        self.assertEqual(code(1, " " * 2001), [-5])
        self.assertEqual(code(1, "a0" + " " * 2998), [-5])
        self.assertEqual(row(0, "0" * 1999 + "5"), [0, 5, 1])
        self.assertEqual(code(0, "0" * 2000 + "5"), [-5])


class CodeOrder(unittest.TestCase):
    """-1, then -2, -3, -4."""

    def test_parameters_go_first(self):
        for numbers in (CODE_500 + [9], [], [77], A + [3, 0] * 40):
            self.assertEqual(tree(9, numbers), [-1])
            self.assertEqual(tree(-1, numbers), [-1])

    def test_length_before_all_else(self):
        self.assertEqual(tree(1, [77] * 501), [-2])
        self.assertEqual(tree(1, [77] * 500), [-3])
        self.assertEqual(tree(1, A + [3, 0] * 250), [-2])
        self.assertEqual(tree(1, A + [3, 0] * 249), [-4])
        self.assertEqual(tree(1, [-BIG] * 3000), [-2])

    def test_no_code_before_too_high(self):
        self.assertEqual(tree(1, A + [3, 0] * 40 + [9]), [-3])
        self.assertEqual(tree(0, A + [3, 0] * 40), [-3])


class TextOrder(unittest.TestCase):
    """-1, then -5, -6, -7, -8, -2."""

    def test_parameters_go_first(self):
        for text in (TOO_LONG, "", NO_EXPRESSION, TOO_HIGH, WRONG_NAME, CODE_TOO_LONG):
            for n in (-1, 9):
                self.assertEqual(code(n, text), [-1])

    def test_each_alone(self):
        for text, number in ((TOO_LONG, -5), (NO_EXPRESSION, -6), (TOO_HIGH, -7), (WRONG_NAME, -8), (CODE_TOO_LONG, -2)):
            self.assertEqual(code(1, text), [number])

    def test_length_before_all_else(self):
        for text in (NO_EXPRESSION, TOO_HIGH, WRONG_NAME, CODE_TOO_LONG, "#", "(" * 40):
            self.assertEqual(code(1, text + " " * 2000), [-5])
        self.assertEqual(stackback.stackcode.code(1, [-BIG] * 2001), [-5])
        self.assertEqual(stackback.stackcode.code(1, [-BIG] * 2000), [-6])

    def test_no_expression_before_height_names_and_code(self):
        self.assertEqual(code(1, TOO_HIGH + " +"), [-6])
        self.assertEqual(code(1, TOO_HIGH + " + x #"), [-6])
        self.assertEqual(code(1, "x + (y"), [-6])
        self.assertEqual(code(1, CODE_TOO_LONG + " 1"), [-6])
        self.assertEqual(code(1, TOO_HIGH + " + " + "(" * 33 + "a0" + ")" * 33), [-6])
        self.assertEqual(code(1, "x + " + "-" * 33 + "y"), [-6])

    def test_height_before_names_and_code(self):
        self.assertEqual(code(1, TOO_HIGH + " + x"), [-7])
        self.assertEqual(code(0, TOO_HIGH), [-7])
        self.assertEqual(code(1, "+".join([CODE_TOO_LONG] + ["1"] * 40)), [-7])

    def test_names_before_code(self):
        self.assertEqual(code(0, CODE_TOO_LONG), [-8])
        self.assertEqual(code(1, CODE_TOO_LONG + " + x"), [-8])
        self.assertEqual(code(1, "g0(" + ", ".join(["a0"] * 300) + ")"), [-8])


class Handed(unittest.TestCase):
    def test_lists_are_as_they_were(self):
        for numbers in (row(2, "if a0 then min(a1, 2) else a0 or a1"), [], [77], A + [3, 0] * 40, CODE_500 + [1], A + [9]):
            kept = list(numbers)
            stackback.stackcode.tree(2, numbers)
            self.assertEqual(numbers, kept)
        for text in ("if a0 then min(a1, 2) else a0 or a1", "", "#", TOO_LONG, TOO_HIGH, WRONG_NAME, CODE_TOO_LONG):
            given = signs(text)
            stackback.stackcode.code(2, given)
            self.assertEqual(given, signs(text))

    def test_not_changed_for_a_while_either(self):
        self.assertEqual(stackback.stackcode.code(1, Watched(signs("min(a0, f1.free) + 2.5"))),
                         [0, 11, 1, 0, 2, 257, 10, 0, 0, 5, 2, 4, 0])
        for text in ("a0 and a1 or -2", "if a0 then 1 else g1(a0, t0(a1))", "max(a0, a1, 1)"):
            numbers = row(2, text)
            self.assertEqual(stackback.stackcode.tree(2, Watched(numbers))[2:], signs(text))

    def test_answers_are_lists_of_whole_numbers(self):
        for answer in (stackback.stackcode.tree(1, A), stackback.stackcode.code(1, signs("a0 = 2:4 // 3")),
                       stackback.stackcode.tree(1, []), stackback.stackcode.code(1, []), stackback.stackcode.tree(9, [])):
            self.assertIs(type(answer), list)
            self.assertEqual({type(number) for number in answer}, {int})

    def test_nothing_is_kept(self):
        numbers = row(2, "a0 and a1")
        first = stackback.stackcode.tree(2, numbers)
        wanted = list(first)
        first.append(5)
        first[0] = 7
        stackback.stackcode.tree(2, [77])
        self.assertEqual(stackback.stackcode.tree(2, numbers), wanted)
        text = signs("a0 and a1")
        first = stackback.stackcode.code(2, text)
        first.clear()
        stackback.stackcode.code(2, signs("(("))
        self.assertEqual(stackback.stackcode.code(2, text), [0, len(numbers)] + numbers)

    def test_calls_within_one_another_stay_few(self):
        """Long and high inputs are answered where Python allows but few calls more."""
        depth = 0
        frame = sys._getframe()
        while frame:
            depth += 1
            frame = frame.f_back
        limit = sys.getrecursionlimit()
        texts = ["+".join(["1"] * 1000), "-" * 1999 + "1", "(" * 2000, "a0^" * 666 + "a0", "if " * 666, "not " * 499 + "a0",
                 "(" * 32 + "a0" + ")" * 32, "if 1 then 2 else " * 31 + "a0", "g1(" * 31 + "a0" + ")" * 31,
                 "(1 or 2 and 3 = 4 + 5 * " * 32 + "a0" + ")" * 32]
        rows = [A + [3, 0] * 249, A * 125 + [4, 0] * 124, A + [3, 2] * 31, A * 125 + [10, 0] * 124, CODE_500]
        rows += [[1, 0, 6, 2, 1, 0, 5] + [2] * 300, A + [6, 2, 0, 1, 1, 5, 2, 0, 2, 1, 9] * 45]
        try:
            sys.setrecursionlimit(depth + 150)
            answers = [code(1, text)[0] for text in texts] + [stackback.stackcode.tree(1, numbers)[0] for numbers in rows]
        finally:
            sys.setrecursionlimit(limit)
        self.assertEqual(answers, [-7, -6, -6, -6, -6, -6, 0, 0, 0, -7, -4, -4, 0, 0, 0, -3, -4])

    def test_arguments_by_name(self):
        self.assertEqual(stackback.stackcode.tree(n=1, code=[1, 0]), [0, 2, 97, 48])
        self.assertEqual(stackback.stackcode.code(n=1, text=[97, 48]), [0, 2, 1, 0])


if __name__ == "__main__":
    unittest.main()
