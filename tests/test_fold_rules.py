"""Folding beyond standing numbers: what changes nothing, and, or, if, errors inside, min and max, names."""

import unittest

import stackback.stackcode
from helper import folded, folded_row, row

BIG = 10 ** 18
COMPARISONS = ("=", "<>", "<", "<=", ">", ">=")
NO_STANDING_NUMBERS = ("a0", "clock", "g0", "g0(1)", "t0(2)", "-a0", "a0 + a1", "not a0", "min(a0, 1)", "1 / 0", "floor(a0)", "a0 ^ 2")
NO_TRUTHS = ("a0", "g0", "g0(1)", "t0(a0)", "-a0", "a0 + 1", "a0 * a1", "min(a0, a1)", "max(1, a0)", "floor(a0)", "sign(a0)", "1 / 0",
             "(if a0 then 1 else 0)", "a0 ^ 2", "-(a0 < 1)", "abs(not a0)")
TRUTHS = ("a0 = 1", "a0 <> 1", "a0 < 1", "a0 <= 1", "a0 > 1", "a0 >= 1", "1 / 0 = 1", "not a0", "not not a0", "not 1 / 0")


class Folded(unittest.TestCase):
    def becomes(self, text, wanted):
        with self.subTest(text):
            self.assertEqual(folded(2, text), wanted)
            self.assertEqual(folded_row(2, row(2, text)), row(2, wanted))

    def stays(self, text):
        self.becomes(text, text)


class WhatChangesNothing(Folded):
    def test_becomes_a(self):
        for a in NO_STANDING_NUMBERS:
            for text in (f"({a}) + 0", f"({a}) - 0", f"0 + ({a})", f"({a}) * 1", f"1 * ({a})", f"({a}) / 1", f"({a}) ^ 1"):
                self.becomes(text, a)

    def test_with_a_0_or_1_that_came_of_folding(self):
        for text in ("a0 + (1 - 1)", "a0 - -0", "-0 + a0", "a0 * (3 - 2)", "(1 < 2) * a0", "a0 / --1", "a0 ^ (if 1 then 1 else 2)",
                     "a0 + (2 < 1)", "(0 and a1) + a0", "a0 * 2:2", "a0 + 0:5", "a0 - 0.00", "a0 ^ 1.0"):
            self.becomes(text, "a0")

    def test_again_and_again(self):
        self.becomes("a0 + 0 + 0 - 0", "a0")
        self.becomes("1 * (0 + a0 / 1) ^ 1 * 1 + 0", "a0")
        self.becomes("(a0 + 0) * (a1 * 1)", "a0 * a1")
        self.becomes("-(a0 + 0)", "-a0")

    def test_what_stays(self):
        for text in ("0 - a0", "0 * a0", "a0 * 0", "1 / a0", "1 ^ a0", "a0 ^ 0", "0 / a0", "0 ^ a0", "0 // a0", "0 % a0", "1 // a0",
                     "1 % a0", "a0 // 1", "a0 % 1", "a0 / 0", "a0 // 0", "a0 % 0", "a0 + 1", "1 + a0", "a0 - 1", "1 - a0", "a0 * -1",
                     "-1 * a0", "a0 / -1", "a0 ^ -1", "a0 * 2", "a0 / 2", "a0 ^ 2", "a0 + 1:2", "a0 * 1:2", "a0 - -1", "a0 * 1:1000",
                     "a0 - a0", "a0 / a0", "a0 + a0"):
            self.stays(text)
        for sign in COMPARISONS:
            for text in (f"a0 {sign} 0", f"0 {sign} a0", f"a0 {sign} 1", f"1 {sign} a0", f"a0 {sign} a0"):
                self.stays(text)

    def test_nothing_is_moved(self):
        self.stays("a0 + 1 + 2")
        self.becomes("1 + 2 + a0", "3 + a0")
        self.stays("1 + a0 + 2")
        self.becomes("a0 * (2 * 3)", "a0 * 6")
        self.stays("2 * a0 * 3")


class And(Folded):
    def test_0_on_the_left(self):
        for right in NO_TRUTHS + TRUTHS + ("0", "1", "-1:2", "a0 and a1", "(a0 or a1)"):
            self.becomes(f"0 and {right}", "0")
            self.becomes(f"-0 and {right}", "0")
            self.becomes(f"1 = 2 and {right}", "0")

    def test_a_standing_number_on_the_right_too(self):
        for left in ("1", "2", "-1", "1:2", "-1:2", str(BIG), f"-1:{BIG}"):
            self.becomes(f"{left} and 0", "0")
            self.becomes(f"{left} and 1 - 1", "0")
            for right in ("1", "5", "-1", "-1:2", "1:2", f"1:{BIG}", "1 + 1"):
                self.becomes(f"{left} and {right}", "1")

    def test_what_is_0_or_1_on_the_right(self):
        for left in ("1", "-1:2", "7"):
            for right in TRUTHS:
                self.becomes(f"{left} and {right}", right)
            self.becomes(f"{left} and (a0 and a1)", "a0 and a1")
            self.becomes(f"{left} and (a0 or a1)", "a0 or a1")
            self.becomes(f"{left} and (3 and a1)", "3 and a1")

    def test_anything_else_on_the_right(self):
        for left in ("1", "-1:2", "7"):
            for right in NO_TRUTHS:
                self.stays(f"{left} and {right}")

    def test_a_standing_number_on_the_right_alone(self):
        for left in ("a0", "a0 < 1", "not a0", "1 / 0"):
            for right in ("0", "1", "-1:2", "7"):
                self.stays(f"{left} and {right}")
        self.becomes("a0 and 1 + 1", "a0 and 2")
        self.stays("a0 and a0")

    def test_the_folded_right_part_counts(self):
        self.becomes("1 and (a0 < 1) + 0", "a0 < 1")
        self.becomes("1 and (if 1 then not a0 else a1)", "not a0")
        self.becomes("1 and not 0", "1")
        self.becomes("1 and (0 and a0)", "0")
        self.becomes("1 and (a0 and 1 and a1)", "a0 and 1 and a1")
        self.becomes("1 and 1 and a0 = 1", "a0 = 1")
        self.becomes("1 and 2 and a0", "1 and a0")
        self.becomes("a0 + 0 and 1 and a1", "a0 and 1 and a1")


class Or(Folded):
    def test_not_0_on_the_left(self):
        for left in ("1", "2", "-1", "1:2", "-1:2"):
            for right in NO_TRUTHS + TRUTHS + ("0", "1", "-1:2", "a0 and a1", "(a0 or a1)"):
                self.becomes(f"{left} or {right}", "1")
        self.becomes("1 < 2 or a0", "1")

    def test_a_standing_number_on_the_right_too(self):
        for left in ("0", "-0", "1 - 1"):
            self.becomes(f"{left} or 0", "0")
            self.becomes(f"{left} or 1 - 1", "0")
            for right in ("1", "5", "-1", "-1:2", "1:2", f"1:{BIG}", "1 + 1"):
                self.becomes(f"{left} or {right}", "1")

    def test_what_is_0_or_1_on_the_right(self):
        for right in TRUTHS:
            self.becomes(f"0 or {right}", right)
        self.becomes("0 or a0 and a1", "a0 and a1")
        self.becomes("0 or (a0 or a1)", "a0 or a1")
        self.becomes("0 or 3 and a1", "3 and a1")

    def test_anything_else_on_the_right(self):
        for right in NO_TRUTHS:
            self.stays(f"0 or {right}")
        self.becomes("0 or 0 or a0", "0 or a0")

    def test_a_standing_number_on_the_right_alone(self):
        for left in ("a0", "a0 < 1", "not a0", "1 / 0"):
            for right in ("0", "1", "-1:2", "7"):
                self.stays(f"{left} or {right}")
        self.becomes("a0 or 1 + 1", "a0 or 2")


class If(Folded):
    def test_a_standing_number_as_condition(self):
        for condition in ("1", "-1", "1:2", "-1:2", "7", "1 < 2", "not 0", "0 or 5", "2 - 1"):
            self.becomes(f"if {condition} then a0 else a1", "a0")
        for condition in ("0", "-0", "2 < 1", "not 5", "1 and 0", "1 - 1"):
            self.becomes(f"if {condition} then a0 else a1", "a1")

    def test_what_is_left_is_folded_too(self):
        self.becomes("if 1 then a0 + 0 else 1 / 0", "a0")
        self.becomes("if 0 then 1 / 0 else 1 + 2", "3")
        self.becomes("2 * (if 1 then 3 else a0)", "6")
        self.becomes("if 1 then (if 0 then a0 else a1) else a0", "a1")
        self.becomes("if (if 1 then 0 else a0) then 1 else 2", "2")

    def test_others_stay_with_folded_parts(self):
        self.stays("if a0 then 1 else 0")
        self.stays("if a0 then a1 else a1")
        self.stays("if a0 < 1 then 1 else 1")
        self.stays("if 1 / 0 then a0 else a1")
        self.stays("if 1 and a0 then a0 else a1")
        self.becomes("if a0 + 0 then 1 + 1 else 2 - 5", "if a0 then 2 else -3")
        self.becomes("if a0 then 1 else if 1 then 2 else 3", "if a0 then 1 else 2")


class Errors(Folded):
    def test_inside_a_larger_expression(self):
        for text, wanted in (
            ("a0 + 1 / 0 * (2 + 3)", "a0 + 1 / 0 * 5"), ("(1 + 1) / (2 - 2) + a0", "2 / 0 + a0"), ("1 / 0 + 0", "1 / 0"),
            ("1 * (1 / 0)", "1 / 0"), ("(2 ^ 65) ^ 1", "2 ^ 65"), ("floor((1 + 2) / 0)", "floor(3 / 0)"),
            ("min(1 + 1, 1 // 0, 3)", "min(2, 1 // 0, 3)"), ("g0(1 + 1, 5 % (3 - 3))", "g0(2, 5 % 0)"), ("1 + 2 = 1 / 0", "3 = 1 / 0"),
            ("not (2 - 1) / 0", "not 1 / 0"), ("0 * (1 / 0)", "0 * (1 / 0)"), ("(1 / 0) ^ 0", "(1 / 0) ^ 0"), ("0 and 1 / 0", "0"),
            (f"{BIG} * 2 / 2", f"{BIG} * 2 / 2"), (f"{BIG} * (2 / 2)", str(BIG)), (f"({BIG} + 1) + (1 + 1)", f"{BIG} + 1 + 2"),
            ("(1 - 3) ^ (60 + 5)", "(-2) ^ 65"), ("(2 + 2) ^ (1 / 2)", "4 ^ 1:2"), ("0 ^ (2 - 3)", "0 ^ -1"), ("-(3 / (1 - 1))", "-(3 / 0)"),
            (f"{BIG} - 1:2 < {BIG}", f"{BIG} - 1:2 < {BIG}"), ("1 / 0 - 1 / 0", "1 / 0 - 1 / 0"),
            ("if 1 / 0 then 1 + 1 else 2", "if 1 / 0 then 2 else 2"),
            ("(1 / 0 or 1) and 2 + 2", "(1 / 0 or 1) and 4"), ("t0(7 / 0 * 1)", "t0(7 / 0)"),
        ):
            self.becomes(text, wanted)


class MinAndMax(Folded):
    def test_that_come_together(self):
        a = [1, 0]
        b = [1, 1]
        v = [2, 128]
        for text, numbers in (
            ("min(a0, min(a1, v0) + 0)", a + b + v + [10, 0] * 2), ("max(a0, max(a1, v0) * 1)", a + b + v + [10, 1] * 2),
            ("min(a0, if 1 then min(a1, v0) else 2)", a + b + v + [10, 0] * 2), ("min(min(a0, a1) / 1, v0)", a + b + [10, 0] + v + [10, 0]),
            ("min(a0, max(a1, v0) ^ 1)", a + b + v + [10, 1, 10, 0]), ("max(a0, 0 + min(a1, v0))", a + b + v + [10, 0, 10, 1]),
            ("min(a0, min(a1, min(v0, 3 + 4) - 0) - 0)", a + b + v + [0, 7, 1] + [10, 0] * 3),
            ("max(1, if 0 then 2 else max(2, a0))", [0, 1, 1, 0, 2, 1] + a + [10, 1] * 2),
        ):
            with self.subTest(text):
                self.assertEqual(folded_row(2, row(2, text)), numbers)
        self.assertEqual(folded(2, "min(a0, min(a1, v0) + 0)"), "min(a0, a1, v0)")
        self.assertEqual(folded(2, "min(min(a0, a1) / 1, v0)"), "min(min(a0, a1), v0)")

    def test_of_the_simple_expression(self):
        self.assertEqual(folded_row(2, row(2, "min(1 + 1, min(2, 5))")), [0, 2, 1])
        self.assertEqual(folded_row(2, row(2, "min(3, min(2, a0))")), row(2, "min(3, 2, a0)"))
        self.assertEqual(folded_row(2, row(2, "min(a0 + 0)")), [1, 0])


class Names(Folded):
    def test_with_brackets(self):
        self.becomes("g0(1 + 1, a0 * 1)", "g0(2, a0)")
        self.becomes("t5(6 / 4)", "t5(3:2)")
        self.becomes("g63(1, 2, 3, 4, 5, 6, 7, 4 + 4)", "g63(1, 2, 3, 4, 5, 6, 7, 8)")
        self.becomes("g0(g1(1 - 2))", "g0(g1(-1))")
        self.becomes("g0(0) + 0", "g0(0)")
        for text in ("g0(1)", "t0(0)", "g0(0, 0)", "g0(a0)", "t0(1) * 0", "g0(1) and 0", "if t0(1) then 1 else 2"):
            self.stays(text)

    def test_bare(self):
        for name in ("a0", "a1", "clock", "living", "g0", "v63", "f3.free", "k0", "me", "p15"):
            self.stays(name)
            self.becomes(f"{name} + 0", name)


class NothingToFold(Folded):
    def test_the_code_comes_back(self):
        for text in ("a0", "5", "-5", "1:2", "-1:2", "0", "a0 + a1 * v0", "if a0 then a1 else v0", "a0 and a1 or v0", "min(a0, a1, v0)",
                     "min(min(a0, a1), v0)", "not a0 = 1", "--a0", "g0(a0, t0(a1))", "floor(a0) % 2"):
            self.stays(text)
            numbers = row(2, text)
            self.assertEqual(stackback.stackcode.fold(2, numbers), [0, len(numbers)] + numbers)


if __name__ == "__main__":
    unittest.main()
