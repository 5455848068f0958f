"""The code of each expression, number by number, and back."""

import unittest

from helper import back, code, row, tree

A = [1, 0]
B = [1, 1]
C = [1, 2]


class EachForm(unittest.TestCase):
    def both(self, text, numbers):
        """The text has this code, and this code is printed as the text."""
        self.assertEqual(code(3, text), [0, len(numbers)] + numbers)
        self.assertEqual(tree(3, numbers), text)

    def test_leaves(self):
        self.both("5:2", [0, 5, 2])
        self.both("0", [0, 0, 1])
        self.both("a2", C)
        self.both("f3.free", [2, 259])
        self.both("g9", [8, 9, 0])

    def test_one_part(self):
        self.both("-a0", A + [3, 0])
        self.both("not a0", A + [3, 1])
        for number, word in enumerate("floor ceil abs sign num den".split()):
            self.both(f"{word}(a0)", A + [3, 2 + number])

    def test_two_parts(self):
        for number, sign in enumerate("+ - * / // % ^ = <> < <= > >=".split()):
            self.both(f"a0 {sign} a1", A + B + [4, number])

    def test_and(self):
        self.both("a0 and a1", A + [6, 3] + B + [9, 5, 1, 0, 0, 1])
        self.both("a0 and -a1", A + [6, 4] + B + [3, 0, 9, 5, 1, 0, 0, 1])
        self.both("a0 and a1 and a2", A + [6, 3] + B + [9, 5, 1, 0, 0, 1] + [6, 3] + C + [9, 5, 1, 0, 0, 1])
        self.both("a0 and (a1 and a2)", A + [6, 8] + B + [6, 3] + C + [9, 5, 1, 0, 0, 1] + [9, 5, 1, 0, 0, 1])

    def test_or(self):
        self.both("a0 or a1", A + [6, 2, 0, 1, 1, 5, 2] + B + [9])
        self.both("a0 or -a1", A + [6, 2, 0, 1, 1, 5, 3] + B + [3, 0, 9])
        self.both("a0 or a1 or a2", A + [6, 2, 0, 1, 1, 5, 2] + B + [9] + [6, 2, 0, 1, 1, 5, 2] + C + [9])
        self.both("a0 or (a1 or a2)", A + [6, 2, 0, 1, 1, 5, 7] + B + [6, 2, 0, 1, 1, 5, 2] + C + [9, 9])

    def test_if(self):
        self.both("if a0 then a1 else a2", A + [6, 2] + B + [5, 1] + C)
        self.both("if a0 then -a1 else not -a2", A + [6, 3] + B + [3, 0, 5, 3] + C + [3, 0, 3, 1])

    def test_min_and_max(self):
        for number, word in enumerate(("min", "max")):
            self.both(f"{word}(a0, a1)", A + B + [10, number])
            self.both(f"{word}(a0, a1, a2, 7)", A + B + C + [0, 7, 1] + [10, number] * 3)
            self.both(f"{word}({word}(a0, a1), a2)", A + B + [10, number] + C + [10, number])
            self.both(f"{word}(a0, {word}(a1, a2), 1)", A + B + C + [10, number, 0, 1, 1] + [10, number] * 2)
            self.assertEqual(row(3, f"{word}(a0)"), A)
            self.assertEqual(row(3, f"{word}(a0, {word}(a1, a2))"), A + B + C + [10, number] * 2)
        self.both("min(a0, max(a1, a2))", A + B + C + [10, 1, 10, 0])

    def test_names_with_brackets(self):
        self.both("t5(a0)", A + [7, 5])
        self.both("g5(a0)", A + [8, 5, 1])
        self.both("g5(a0, a1, a2)", A + B + C + [8, 5, 3])
        self.both("g5(a0, g6, t7(a1))", A + [8, 6, 0] + B + [7, 7] + [8, 5, 3])


class Alike(unittest.TestCase):
    """Rows that differ in a jump alone, or look like more than one form."""

    def test_what_follows_an_if_is_told_by_its_jump(self):
        self.assertEqual(tree(3, A + [6, 2] + B + [5, 1] + C + [3, 0]), "-(if a0 then a1 else a2)")
        self.assertEqual(tree(3, A + [6, 2] + B + [5, 2] + C + [3, 0]), "if a0 then a1 else -a2")
        self.assertEqual(tree(3, A + [6, 2] + B + [5, 1] + C + A + [4, 0]), "(if a0 then a1 else a2) + a0")
        self.assertEqual(tree(3, A + [6, 2] + B + [5, 3] + C + A + [4, 0]), "if a0 then a1 else a2 + a0")

    def test_or_and_if_with_one(self):
        self.assertEqual(tree(3, A + [6, 2, 0, 1, 1, 5, 1] + B), "if a0 then 1 else a1")
        for text in ("if a0 then 1 else a1", "a0 or a1", "if a0 then 1 else a1 or a2", "a0 or (a1 or a2)",
                     "a0 or (if a1 then 1 else a2)", "if a0 then 1 else if a1 then 1 else a2", "if a0 then 2 else a1 or a2",
                     "a0 or (if a1 then 2 else a2)", "if a0 then 1 else 1 + (a1 or a2)", "(if a0 then 1 else a1) or a2"):
            self.assertEqual(back(3, text), text)

    def test_and_and_if_with_zero(self):
        self.assertEqual(tree(3, A + [6, 2] + B + [5, 1, 0, 0, 1]), "if a0 then a1 else 0")
        for text in ("if a0 then a1 else 0", "if a0 then a1 or a2 else 0", "a0 and (a1 or a2)", "a0 and (if a1 then 1 else a2)",
                     "if a0 then if a1 then 1 else a2 else 0", "if a0 then a1 and a2 else 0", "a0 and (a1 and a2)",
                     "a0 and (if a1 then a2 else 0)", "if a0 then if a1 then 2 else a1 or a2 else 0",
                     "a0 and (if a1 then 2 else a1 or a2)", "(a0 and 0) = 0", "a0 and 1 or 0", "a0 or 0 and 1"):
            self.assertEqual(back(3, text), text)

    def test_conditions_are_whole_expressions(self):
        for text in ("a0 + (if a1 then a2 else 1)", "if a0 + a1 then a2 else 1", "g1(a0, a1 and a2, a0)", "a0 - (a1 or a2)",
                     "min(a0, a1 or a2, if a0 then 1 else 2)", "-(a0 and a1)", "(a0 and a1) + (a0 or a1)"):
            self.assertEqual(back(3, text), text)


if __name__ == "__main__":
    unittest.main()
