"""Folding of standing numbers: every operation, its errors, and how large a result may be."""

import unittest
from fractions import Fraction

from helper import folded, folded_row, row

BIG = 10 ** 18
VALUES = [Fraction(above, below) for above, below in
          ((-5, 1), (-3, 2), (-1, 1), (-2, 3), (0, 1), (1, 3), (1, 1), (5, 4), (2, 1), (7, 1))]


def shown(value):
    """A number as a text has it, with brackets where it is below 0."""
    value = Fraction(value)
    text = str(abs(value.numerator)) if value.denominator == 1 else f"{abs(value.numerator)}:{value.denominator}"
    return "(-" + text + ")" if value < 0 else text


class Folded(unittest.TestCase):
    def becomes(self, text, wanted):
        with self.subTest(text):
            self.assertEqual(folded(2, text), wanted)

    def stays(self, text):
        self.assertEqual(folded_row(2, row(2, text)), row(2, text), text)
        self.becomes(text, text)

    def is_worth(self, text, value):
        self.becomes(text, shown(value).strip("()"))


class Joined(Folded):
    def test_each_operation_on_numbers_of_both_signs(self):
        for a in VALUES:
            for b in VALUES:
                left, right = shown(a), shown(b)
                self.is_worth(f"{left} + {right}", a + b)
                self.is_worth(f"{left} - {right}", a - b)
                self.is_worth(f"{left} * {right}", a * b)
                self.is_worth(f"{left} = {right}", int(a == b))
                self.is_worth(f"{left} <> {right}", int(a != b))
                self.is_worth(f"{left} < {right}", int(a < b))
                self.is_worth(f"{left} <= {right}", int(a <= b))
                self.is_worth(f"{left} > {right}", int(a > b))
                self.is_worth(f"{left} >= {right}", int(a >= b))
                if b != 0:
                    self.is_worth(f"{left} / {right}", a / b)
                    self.is_worth(f"{left} // {right}", a // b)
                    self.is_worth(f"{left} % {right}", a % b)

    def test_results_as_code(self):
        for text, numbers in (
            ("1 + 2", [0, 3, 1]), ("1 - 3", [0, 2, 1, 3, 0]), ("1 / 3", [0, 1, 3]), ("2 / -6", [0, 1, 3, 3, 0]),
            ("1 - 1", [0, 0, 1]), ("-3 * 0", [0, 0, 1]), ("-0", [0, 0, 1]), ("-2", [0, 2, 1, 3, 0]), ("--2", [0, 2, 1]),
            ("---2", [0, 2, 1, 3, 0]), ("1 < 2", [0, 1, 1]), ("2 < 1", [0, 0, 1]), ("6:4", [0, 3, 2]), ("-1:2", [0, 1, 2, 3, 0]),
            ("0 / -5", [0, 0, 1]), ("0 // -5", [0, 0, 1]), ("0 % -5", [0, 0, 1]), ("4 % -2", [0, 0, 1]),
        ):
            with self.subTest(text):
                self.assertEqual(folded_row(0, row(0, text)), numbers)

    def test_rounding_down_with_each_pair_of_signs(self):
        for text, wanted in (
            ("7 // 2", "3"), ("-7 // 2", "-4"), ("7 // -2", "-4"), ("-7 // -2", "3"),
            ("7 % 2", "1"), ("-7 % 2", "1"), ("7 % -2", "-1"), ("-7 % -2", "-1"),
            ("6 // 2", "3"), ("-6 // 2", "-3"), ("6 // -2", "-3"), ("-6 // -2", "3"),
            ("6 % 2", "0"), ("-6 % 2", "0"), ("6 % -2", "0"), ("-6 % -2", "0"),
            ("7:2 // 2:3", "5"), ("-7:2 // 2:3", "-6"), ("7:2 // -2:3", "-6"), ("-7:2 // -2:3", "5"),
            ("7:2 % 2:3", "1:6"), ("-7:2 % 2:3", "1:2"), ("7:2 % -2:3", "-1:2"), ("-7:2 % -2:3", "-1:6"),
            ("1 // 2", "0"), ("-1 // 2", "-1"), ("1 // -2", "-1"), ("-1 // -2", "0"),
        ):
            self.becomes(text, wanted)

    def test_by_0(self):
        for left in ("5", "0", "-1:2"):
            for sign in ("/", "//", "%"):
                self.stays(f"{left} {sign} 0")
                self.becomes(f"{left} {sign} -0", f"{left} {sign} 0")
                self.becomes(f"{left} {sign} (1 - 1)", f"{left} {sign} 0")


class Bounds(Folded):
    """Results at 10^18 and just past it."""

    def test_numerators(self):
        for text, value in (
            (f"{BIG - 1} + 1", BIG), (f"-{BIG - 1} - 1", -BIG), (f"{BIG} + -1", BIG - 1), (f"{BIG} - {BIG}", 0),
            ("1000000000 * 1000000000", BIG), ("-1000000000 * 1000000000", -BIG), (f"-{BIG} * -1", BIG),
            (f"{BIG // 2} / 1:2", BIG), (f"{BIG // 2} / -1:2", -BIG), (f"{BIG // 2} // 1:2", BIG), (f"{BIG // 2} // -1:2", -BIG),
            (f"{BIG // 2 - 1} + {BIG // 2 + 1}", BIG), (f"{BIG - 1}:2 + 1:2", BIG // 2), (f"{BIG - 2}:3 + 1:3", Fraction(BIG - 1, 3)),
            (f"0 - {BIG}", -BIG),
        ):
            self.is_worth(text, value)
        for text in (
            f"{BIG} + 1", f"1 + {BIG}", f"-{BIG} - 1", f"-{BIG} + -1", f"{BIG} - -1", "1000000001 * 1000000000",
            "-1000000001 * 1000000000", f"{BIG} * 2", f"-{BIG} * {BIG}", f"{BIG} / 1:2", f"{BIG} / -1:2", f"{BIG} // 1:2",
            f"{BIG} // -1:2", f"{BIG} + 1:2", f"{BIG} - 1:2", f"{BIG}:3 + 1:3", f"-{BIG}:3 - 1:3", f"{BIG} + {BIG}",
            f"{BIG} / {BIG - 1}:{BIG}", f"{BIG // 2} + {BIG // 2 + 1}", f"-{BIG // 2} - {BIG // 2 + 1}",
        ):
            self.stays(text)

    def test_denominators(self):
        for text, value in (
            ("1:1000000000 * 1:1000000000", Fraction(1, BIG)), ("1:1000000000 / -1000000000", Fraction(-1, BIG)),
            (f"1 / {BIG}", Fraction(1, BIG)), (f"1 - {BIG - 1}:{BIG}", Fraction(1, BIG)), (f"{BIG - 1}:{BIG} - 1", Fraction(-1, BIG)),
            (f"1:2 * 1:{BIG // 2}", Fraction(1, BIG)), (f"3:{BIG} * 1:3", Fraction(1, BIG)), (f"1:{BIG} * {BIG}", 1),
            (f"1:{BIG} / 1:{BIG}", 1), (f"1:{BIG} + 1:{BIG}", Fraction(2, BIG)), (f"{BIG - 1}:{BIG} * {BIG}", BIG - 1),
            (f"1:{BIG // 2} - 1:{BIG}", Fraction(1, BIG)), (f"1:{BIG} % 1", Fraction(1, BIG)),
            (f"-1:{BIG} % 1", Fraction(BIG - 1, BIG)), (f"1:{BIG} % -1", Fraction(1 - BIG, BIG)), (f"1:{BIG} % 1:3", Fraction(1, BIG)),
            (f"{BIG - 1}:{BIG} / 9:7", Fraction(BIG - 1, 9) * Fraction(7, BIG)),
        ):
            self.is_worth(text, value)
        for text in (
            "1:1000000000 * 1:1000000001", "1:1000000000 * -1:1000000001", "-1:1000000000 / 1000000001", f"1:{BIG} / 2",
            f"-1:{BIG} / 2", f"1:{BIG} + 1:3", f"1:{BIG} - 1:3", f"1:{BIG - 1} + 1:{BIG}", f"1:{BIG} * 1:{BIG}", f"2:3 % 1:{BIG}",
            f"-2:3 % 1:{BIG}", f"1:{BIG - 1} % 1:{BIG}",
        ):
            self.stays(text)

    def test_only_what_is_met_on_the_way_is_not_small(self):
        near = f"{BIG - 1}:{BIG}"
        over = f"{BIG}:{BIG - 1}"
        for text, value in (
            (f"{BIG} % 1:3", 0), (f"{BIG} % 2:3", 0), (f"{BIG} % 3:7", Fraction(BIG) % Fraction(3, 7)), (f"-{BIG} % 1:3", 0),
            (f"{BIG} % -3:7", Fraction(BIG) % Fraction(-3, 7)), (f"-{BIG} % 3:7", Fraction(-BIG) % Fraction(3, 7)),
            (f"{BIG} % 1:{BIG}", 0), (f"-{BIG} % 1:{BIG}", 0), (f"{near} // {over}", 0), (f"{over} // {near}", 1),
            (f"-{near} // {over}", -1), (f"{near} % {over}", Fraction(BIG - 1, BIG)), (f"1:{BIG} // {BIG}", 0),
            (f"-1:{BIG} // {BIG}", -1), (f"1:{BIG} % {BIG}", Fraction(1, BIG)), (f"{near} < {over}", 1), (f"{near} = {over}", 0),
            (f"max({near}, {over})", Fraction(BIG, BIG - 1)), (f"min(-{near}, -{over})", Fraction(-BIG, BIG - 1)),
            (f"1:{BIG} < 1:{BIG - 1}", 1), (f"{BIG}:3 > {BIG - 1}:3", 1),
        ):
            self.is_worth(text, value)
        for text in (f"{BIG} // 1:3", f"-{BIG} // 1:3", f"{BIG} // 1:{BIG}", f"{over} % {near}", f"-{near} % {over}", f"-1:{BIG} % {BIG}"):
            self.stays(text)


class Powers(Folded):
    def test_exponents(self):
        for text, wanted in (
            ("2 ^ -1", "1:2"), ("2 ^ 0", "1"), ("2 ^ 1", "2"), ("2 ^ 10", "1024"), ("2 ^ -3", "1:8"), ("-2 ^ 2", "-4"),
            ("(-2) ^ 2", "4"), ("(-2) ^ 3", "-8"), ("(-2) ^ -3", "-1:8"), ("(-2) ^ 0", "1"), ("(-2) ^ 1", "-2"), ("(-2) ^ -1", "-1:2"),
            ("2 ^ 6:2", "8"), ("2 ^ (1 + 1)", "4"), ("2 ^ -0", "1"), ("3 ^ 2 ^ 2", "81"),
        ):
            self.becomes(text, wanted)

    def test_from_minus_64_to_64(self):
        for exponent in (-64, -63, -1, 0, 1, 63, 64):
            self.is_worth(f"1 ^ {exponent}", 1)
            self.is_worth(f"(-1) ^ {exponent}", (-1) ** (exponent % 2))
        for exponent in (-65, 65, -66, 66, -BIG, BIG):
            for base in ("0", "1", "2", "1:2", "(-1)", "(-2:3)"):
                self.stays(f"{base} ^ {exponent}")

    def test_exponents_that_are_not_whole(self):
        for base in ("0", "1", "4", "1:4", "(-1)"):
            for exponent in ("1:2", "-1:2", "3:2", "129:2"):
                self.stays(f"{base} ^ {exponent}")

    def test_of_0(self):
        self.is_worth("0 ^ 0", 1)
        for exponent in (1, 2, 63, 64):
            self.is_worth(f"0 ^ {exponent}", 0)
        for exponent in (-1, -2, -64, -65, 65):
            self.stays(f"0 ^ {exponent}")

    def test_of_fractions(self):
        for text, value in (
            ("2:3 ^ 2", Fraction(4, 9)), ("2:3 ^ -2", Fraction(9, 4)), ("2:3 ^ 0", 1), ("2:3 ^ 1", Fraction(2, 3)),
            ("(-2:3) ^ 3", Fraction(-8, 27)), ("(-2:3) ^ -3", Fraction(-27, 8)), ("(-2:3) ^ 2", Fraction(4, 9)),
            ("(-2:3) ^ -2", Fraction(9, 4)), ("(-1:2) ^ 0", 1), ("2:3 ^ -1", Fraction(3, 2)), ("(-2:3) ^ -1", Fraction(-3, 2)),
        ):
            self.is_worth(text, value)

    def test_bounds(self):
        for text, value in (
            ("2 ^ 59", 2 ** 59), ("2 ^ -59", Fraction(1, 2 ** 59)), ("(-2) ^ 59", -2 ** 59), ("10 ^ 18", BIG), ("(-10) ^ 18", BIG),
            ("10 ^ -18", Fraction(1, BIG)), ("1:10 ^ 18", Fraction(1, BIG)), ("1:10 ^ -18", BIG), (f"{BIG} ^ 1", BIG), (f"{BIG} ^ 0", 1),
            (f"{BIG} ^ -1", Fraction(1, BIG)), (f"(-{BIG}) ^ 1", -BIG), (f"(-{BIG}) ^ -1", Fraction(-1, BIG)), (f"1:{BIG} ^ -1", BIG),
            ("1000000000 ^ 2", BIG), ("(-1000000) ^ 3", -BIG), ("(-1000000) ^ -3", Fraction(-1, BIG)), (f"{BIG}:{BIG - 1} ^ 0", 1),
        ):
            self.is_worth(text, value)
        for text in (
            "2 ^ 60", "2 ^ -60", "(-2) ^ 60", "1:2 ^ 60", "1:2 ^ -60", "2 ^ 64", "2 ^ -64", "10 ^ 19", "(-10) ^ 19", "10 ^ -19",
            "1:10 ^ 19", "1:10 ^ -19", f"{BIG} ^ 2", f"{BIG} ^ 64", f"{BIG} ^ -64", f"(-{BIG}) ^ 63", f"1:{BIG} ^ 2",
            "1000000001 ^ 2", "(-1000001) ^ 3", "1000000001:1000000000 ^ 2", "1000000000:1000000001 ^ 2",
        ):
            self.stays(text)


class OnePart(Folded):
    def test_each_on_numbers_of_both_signs(self):
        for a in VALUES + [Fraction(BIG), Fraction(-BIG), Fraction(1, BIG), Fraction(-1, BIG), Fraction(-BIG, BIG - 1)]:
            text = shown(a)
            self.is_worth(f"-{text}", -a)
            self.is_worth(f"not {text}", int(a == 0))
            self.is_worth(f"floor({text})", a.numerator // a.denominator)
            self.is_worth(f"ceil({text})", -(-a.numerator // a.denominator))
            self.is_worth(f"abs({text})", abs(a))
            self.is_worth(f"sign({text})", (a > 0) - (a < 0))
            self.is_worth(f"num({text})", a.numerator)
            self.is_worth(f"den({text})", a.denominator)

    def test_below_0(self):
        for text, wanted in (
            ("floor(-7:2)", "-4"), ("ceil(-7:2)", "-3"), ("floor(-4)", "-4"), ("ceil(-4)", "-4"), ("ceil(-1:2)", "0"),
            ("floor(-1:2)", "-1"), ("sign(-7:2)", "-1"), ("num(-6:4)", "-3"), ("den(-6:4)", "2"), ("den(-3)", "1"), ("abs(-7:2)", "7:2"),
            ("not -1:2", "0"), ("not not -1:2", "1"), ("--7:2", "7:2"), ("-0", "0"), ("num(0)", "0"), ("den(0)", "1"), ("sign(0)", "0"),
            ("floor(7:2)", "3"), ("ceil(7:2)", "4"), ("not 0", "1"), ("not 3", "0"), ("-(2 - 5)", "3"), ("abs(2 - 5)", "3"),
        ):
            self.becomes(text, wanted)

    def test_others_stay(self):
        for word in ("floor", "ceil", "abs", "sign", "num", "den"):
            self.stays(f"{word}(a0)")
            self.stays(f"{word}({word}(a0))")
            self.stays(f"{word}(1 / 0)")
        for text in ("-a0", "--a0", "not a0", "not not a0", "-(1 / 0)", "not 1 / 0"):
            self.stays(text)


class Picked(Folded):
    def test_standing_numbers_alone(self):
        for text, wanted in (
            ("min(3, 1, 2)", "1"), ("max(3, 1, 2)", "3"), ("min(1, 2, 3)", "1"), ("max(1, 2, 3)", "3"), ("min(3, 2, 1)", "1"),
            ("max(1, 3, 2)", "3"), ("min(-1, -2)", "-2"), ("max(-1, -2)", "-1"), ("min(1:2, 1:3)", "1:3"), ("max(1:2, 1:3)", "1:2"),
            ("min(-1:2, -1:3, 0)", "-1:2"), ("max(-1:2, -1:3)", "-1:3"), ("min(0, -0)", "0"), ("max(0, -1)", "0"), ("min(0, 1)", "0"),
            ("min(2, 2)", "2"), ("max(2, 2)", "2"), ("min(-2, -2)", "-2"), ("max(2:4, 1:2)", "1:2"), ("min(1 + 1, 5 - 2)", "2"),
            ("min(max(1, 5), 3)", "3"), ("max(1, min(5, 3))", "3"), ("min(min(4, 5), 3)", "3"), ("max(1, max(2, 3))", "3"),
            (f"min({BIG}, -{BIG})", f"-{BIG}"), (f"max({BIG}, {BIG})", str(BIG)), ("min(4, 3, 2, 3, 4, 5, 2, 9)", "2"),
        ):
            self.becomes(text, wanted)

    def test_with_one_part_that_is_none(self):
        for text in ("min(1, a0)", "min(a0, 1)", "max(1, 2, a0)", "max(a0, 1, 2)", "min(1, a0, 1)", "min(a0, a0)", "max(1, 1 / 0)"):
            self.stays(text)
        self.becomes("min(1 + 1, 2 + 2, a0)", "min(2, 4, a0)")
        self.becomes("max(2 - 3, a0 + 0, 1 < 2)", "max(-1, a0, 1)")


if __name__ == "__main__":
    unittest.main()
