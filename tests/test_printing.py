"""Printing: numbers, names, blanks, and brackets only where a part is weaker than its place wants."""

import unittest

from helper import KINDS, PLACES, back, row, tree


class Brackets(unittest.TestCase):
    def test_every_kind_in_every_place(self):
        for place, wanted in PLACES:
            for kind, parts in enumerate(KINDS):
                for part in parts:
                    printed = place.format(part if kind >= wanted else f"({part})")
                    numbers = row(4, place.format(f"({part})"))
                    self.assertEqual(tree(4, numbers), printed)
                    self.assertEqual(row(4, printed), numbers)

    def test_last_parts_of_min_and_max(self):
        self.assertEqual(back(4, "min(a3, (if a0 then a1 else a2))"), "min(a3, if a0 then a1 else a2)")
        self.assertEqual(back(4, "max(a3, (a0 or a1))"), "max(a3, a0 or a1)")

    def test_none_that_are_not_needed(self):
        for text, printed in (
            ("((a0))", "a0"), ("(a0) + (a1)", "a0 + a1"), ("(a0 + a1) + a2", "a0 + a1 + a2"), ("(a0 * a1) + a2", "a0 * a1 + a2"),
            ("a0 + (a1 * a2)", "a0 + a1 * a2"), ("a0 ^ (a1 ^ a2)", "a0 ^ a1 ^ a2"), ("-(-(a0))", "--a0"),
            ("not (not (a0))", "not not a0"), ("(not a0) and (a1 = a2)", "not a0 and a1 = a2"), ("-(a0 ^ a1)", "-a0 ^ a1"),
            ("a0 ^ (-a1)", "a0 ^ -a1"), ("a0 - (-a1)", "a0 - -a1"), ("a0 * (-a1)", "a0 * -a1"), ("(-a0) * a1", "-a0 * a1"),
            ("(a0 and a1) or (a2 and a3)", "a0 and a1 or a2 and a3"), ("not (a0 < a1)", "not a0 < a1"),
            ("if (if a0 then a1 else a2) then (if a1 then 1 else 2) else (if a2 then 3 else 4)",
             "if if a0 then a1 else a2 then if a1 then 1 else 2 else if a2 then 3 else 4"),
        ):
            self.assertEqual(back(4, text), printed)

    def test_those_that_are_needed(self):
        for text in (
            "a0 + (a1 + a2)", "a0 - (a1 - a2)", "a0 * (a1 * a2)", "a0 / (a1 * a2)", "(a0 ^ a1) ^ a2", "(-a0) ^ a1", "-(a0 * a1)",
            "-(a0 + a1)", "a0 or (a1 or a2)", "a0 and (a1 and a2)", "(a0 or a1) and a2", "not (a0 and a1)", "(a0 < a1) < a2",
            "a0 < (a1 < a2)", "(not a0) = a1", "(not a0) + a1", "a0 ^ (a1 * a2)", "(a0 + a1) * (a2 + a3)", "-(not a0)",
            "(if a0 then a1 else a2) + 1", "1 + (if a0 then a1 else a2)", "a0 or (if a1 then a2 else a3)",
        ):
            self.assertEqual(back(4, text), text)


class Numbers(unittest.TestCase):
    def test_digits_or_two_and_a_colon(self):
        for above, below, printed in (
            (0, 1, "0"), (7, 1, "7"), (3, 2, "3:2"), (1, 10 ** 18, "1:1000000000000000000"),
            (10 ** 18, 1, "1000000000000000000"), (10 ** 18, 10 ** 18 - 1, "1000000000000000000:999999999999999999"),
        ):
            self.assertEqual(tree(0, [0, above, below]), printed)
        self.assertEqual(back(0, "12.50"), "25:2")
        self.assertEqual(back(0, "-6:4"), "-3:2")


class Blanks(unittest.TestCase):
    def test_blanks_as_told(self):
        for text, printed in (
            ("-  a0", "-a0"), ("not\na0", "not a0"), ("a0+a1", "a0 + a1"), ("a0^2", "a0 ^ 2"), ("a0//2%3", "a0 // 2 % 3"),
            ("a0<=1", "a0 <= 1"), ("min ( a0 ,a1,1 )", "min(a0, a1, 1)"), ("g1 (a0)", "g1(a0)"), ("t1( 2 )", "t1(2)"),
            ("if(a0)then(1)else(2)", "if a0 then 1 else 2"), ("a0  and\ta1\ror 1", "a0 and a1 or 1"), ("abs( a0 )", "abs(a0)"),
            ("- - a0 - - a1", "--a0 - -a1"), ("not - a0", "not -a0"),
        ):
            self.assertEqual(back(2, text), printed)

    def test_a_text_longer_than_texts_that_are_taken_is_printed(self):
        number = [0, 10 ** 18 - 1, 10 ** 18]
        numbers = (number * 8 + [8, 0, 8]) * 4
        numbers = numbers * 4 + [10, 0] * 15
        part = "g0(" + ", ".join(["999999999999999999:1000000000000000000"] * 8) + ")"
        self.assertEqual(tree(0, numbers), "min(" + ", ".join([part] * 16) + ")")


class Simple(unittest.TestCase):
    def test_min_and_max(self):
        for text, printed in (
            ("min(a0)", "a0"), ("max(a0 + 1)", "a0 + 1"), ("min(min(max(a0)))", "a0"), ("min(a0, min(a1, v0))", "min(a0, a1, v0)"),
            ("min(min(a0, a1), v0)", "min(min(a0, a1), v0)"), ("max(a0, max(a1, max(v0, v1)))", "max(a0, a1, v0, v1)"),
            ("min(a0, max(a1, v0))", "min(a0, max(a1, v0))"), ("max(a0, min(a1, max(v0, v1)))", "max(a0, min(a1, max(v0, v1)))"),
            ("min(a0, min(a1, a1), v0)", "min(a0, min(a1, a1), v0)"), ("max(a0, min(a1, v0), v1)", "max(a0, min(a1, v0), v1)"),
            ("min(a0, min(a1))", "min(a0, a1)"), ("min(a0, min(min(a1, v0), v1))", "min(a0, min(a1, v0), v1)"),
            ("min(a0, min(min(a1, v0)))", "min(a0, a1, v0)"), ("min(a0, max(min(a1, v0)))", "min(a0, a1, v0)"),
            ("min(min(a0, a1), min(v0, v1))", "min(min(a0, a1), v0, v1)"), ("max(a0, a1, max(v0, v1, v2))", "max(a0, a1, v0, v1, v2)"),
            ("-min(a0) + 1", "-a0 + 1"), ("min(a0 + 1) * 2", "(a0 + 1) * 2"), ("min(a0, -min(a1, v0))", "min(a0, -min(a1, v0))"),
            ("min(a0, if a1 then 1 else min(v0, v1))", "min(a0, if a1 then 1 else min(v0, v1))"),
        ):
            self.assertEqual(back(2, text), printed)


if __name__ == "__main__":
    unittest.main()
