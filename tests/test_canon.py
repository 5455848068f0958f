"""What canon tells: the simple expression of a text's code, printed."""

import unittest

import stackback.stackcode
from helper import KINDS, PLACES, back, canon, row, signs

BIG = 10 ** 18


class Canon(unittest.TestCase):
    def told(self, *rows):
        """Each text is told as it stands beside it, and what is told is told again as it stands."""
        for text, printed in rows:
            with self.subTest(text):
                self.assertEqual(canon(4, text), printed)
                self.assertEqual(canon(4, printed), printed)
                self.assertEqual(row(4, printed), row(4, text))
                self.assertEqual(back(4, text), printed)


class EachForm(Canon):
    def test_as_it_stands(self):
        self.told(*[(text, text) for texts in KINDS for text in texts])
        self.told(*[(text, text) for text in ("0", "clock", "k63", "f63.displaced", "g0(1, 2, 3, 4, 5, 6, 7, 8)", "t63(1)", "max(1, 2)")])

    def test_number_by_number(self):
        self.assertEqual(stackback.stackcode.canon(1, [97, 48]), [0, 2, 97, 48])
        self.assertEqual(stackback.stackcode.canon(1, signs("min(a0)+3:2")), [0, 8] + signs("a0 + 3:2"))
        self.assertEqual(stackback.stackcode.canon(0, signs("7")), [0, 1, 55])

    def test_nothing_is_folded(self):
        self.told(*[(text, text) for text in ("1 + 2", "a0 + 0", "if 1 then 2 else 3", "0 and a0", "min(1, 2)", "--1", "1 / 0", "not 0", "2:3 * 0")])


class Blanks(Canon):
    def test_each_kind(self):
        for blank in (" ", "\t", "\n", "\r", " \t\n\r", "   "):
            tokens = ["if", "a0", ">=", "1:2", "then", "min", "(", "a1", ",", "-", "a2", ")", "else", "not", "g1", "(", "a0", "^", "2", ")"]
            for text in (blank.join(tokens), blank + blank.join(tokens) + blank):
                self.told((text, "if a0 >= 1:2 then min(a1, -a2) else not g1(a0 ^ 2)"))

    def test_put_in_where_there_is_none(self):
        self.told(
            ("a0+a1-a2", "a0 + a1 - a2"), ("a0*a1/a2//a3%2", "a0 * a1 / a2 // a3 % 2"), ("a0^-a1", "a0 ^ -a1"), ("a0<>a1", "a0 <> a1"),
            ("min(a0,a1,a2)", "min(a0, a1, a2)"), ("g1(a0,a1)", "g1(a0, a1)"), ("(a0)and(a1)or(a2)", "a0 and a1 or a2"),
            ("if(a0)then(1)else(2)", "if a0 then 1 else 2"), ("not(a0)", "not a0"),
        )

    def test_taken_out_where_there_are_too_many(self):
        self.told(
            (" a0 ", "a0"), ("- - a0", "--a0"), ("- ( a0  +  1 )", "-(a0 + 1)"), ("floor ( a0 )", "floor(a0)"), ("g1 ( a0 , a1 )", "g1(a0, a1)"),
            ("not   not\na0", "not not a0"), ("max ( a0 , 1 )", "max(a0, 1)"),
        )


class Brackets(Canon):
    def test_every_kind_in_every_place(self):
        for place, wanted in PLACES:
            for kind, parts in enumerate(KINDS):
                for part in parts:
                    printed = place.format(part if kind >= wanted else f"({part})")
                    self.assertEqual(canon(4, place.format(f"({part})")), printed)
                    self.assertEqual(canon(4, place.format(f"(( {part} ))")), printed)
                    # A min of one part holds together as that part does.
                    self.assertEqual(canon(4, place.format(f"min({part})")), printed)

    def test_those_that_are_not_needed(self):
        self.told(
            ("((a0))", "a0"), ("(a0 + a1) + a2", "a0 + a1 + a2"), ("a0 + (a1 * a2)", "a0 + a1 * a2"), ("a0 ^ (a1 ^ a2)", "a0 ^ a1 ^ a2"),
            ("-(-(a0))", "--a0"), ("(a0 and a1) or (a2 and a3)", "a0 and a1 or a2 and a3"), ("min((a0), (a1))", "min(a0, a1)"),
            ("(min(a0, a1))", "min(a0, a1)"), ("g0((a0 or a1))", "g0(a0 or a1)"), ("abs((a0))", "abs(a0)"),
        )

    def test_those_that_are_needed(self):
        self.told(*[(text, text) for text in (
            "a0 + (a1 + a2)", "a0 - (a1 - a2)", "(a0 + a1) * a2", "(a0 ^ a1) ^ a2", "(-a0) ^ a1", "-(a0 * a1)", "a0 or (a1 or a2)",
            "a0 and (a1 and a2)", "(a0 or a1) and a2", "not (a0 and a1)", "(a0 < a1) < a2", "a0 < (a1 < a2)", "(not a0) + a1", "-(not a0)",
            "(if a0 then a1 else a2) + 1", "a0 or (if a1 then a2 else a3)",
        )])


class Numbers(Canon):
    def test_a_point(self):
        self.told(
            ("12.50", "25:2"), ("0.5", "1:2"), ("2.0", "2"), ("0.0", "0"), ("3.000", "3"), ("0.125", "1:8"), ("1.1", "11:10"),
            ("007.250", "29:4"), ("0.000000000000000001", "1:1000000000000000000"), ("1." + "0" * 1000, "1"),
        )

    def test_a_colon(self):
        self.told(
            ("6:4", "3:2"), ("4:2", "2"), ("3:1", "3"), ("0:5", "0"), ("1:2", "1:2"), ("06:004", "3:2"), ("100:100", "1"),
            (f"{BIG * 3}:{(BIG - 1) * 3}", f"{BIG}:{BIG - 1}"), ("1" + "0" * 900 + ":1" + "0" * 901, "1:10"),
        )

    def test_zeros_before(self):
        self.told(("000", "0"), ("0", "0"), ("007", "7"), ("00.5", "1:2"), ("0" * 1999 + "5", "5"), (f"00{BIG}", f"{BIG}"), ("-05", "-5"))

    def test_below_0(self):
        self.told(("-6:4", "-3:2"), ("0 - 2.50", "0 - 5:2"), ("a0 - -1.0", "a0 - -1"), ("-0.0", "-0"), ("2.0 ^ -1:01", "2 ^ -1"))


class Simple(Canon):
    def test_one_part(self):
        self.told(
            ("min(a0)", "a0"), ("max(a0)", "a0"), ("min(a0 + 1)", "a0 + 1"), ("min(min(max(a0)))", "a0"), ("min(if a0 then 1 else 2)", "if a0 then 1 else 2"),
            ("min(max(a0, a1))", "max(a0, a1)"), ("max(max(a0, a1))", "max(a0, a1)"), ("-min(a0)", "-a0"), ("min(a0) ^ max(a1)", "a0 ^ a1"),
            ("g0(min(a0), max(a1))", "g0(a0, a1)"), ("min(min(a0), max(a1))", "min(a0, a1)"), ("t0(min(max(2.50)))", "t0(5:2)"),
            ("if min(a0) then max(a1) else min(a2)", "if a0 then a1 else a2"), ("min(a0) and max(a1) or min(a2)", "a0 and a1 or a2"),
        )

    def test_one_part_where_brackets_are_needed(self):
        self.told(
            ("min(a0 + a1) * 2", "(a0 + a1) * 2"), ("2 - max(a0 - a1)", "2 - (a0 - a1)"), ("-min(a0 * a1)", "-(a0 * a1)"), ("max(-a0) ^ 2", "(-a0) ^ 2"),
            ("not min(a0 or a1)", "not (a0 or a1)"), ("a0 or min(a1 or a2)", "a0 or (a1 or a2)"), ("min(a0 = a1) = a2", "(a0 = a1) = a2"),
            ("min(a0 or a1) or a2", "a0 or a1 or a2"), ("min(if a0 then a1 else a2) + 1", "(if a0 then a1 else a2) + 1"),
        )

    def test_the_last_part(self):
        for word in ("min", "max"):
            self.told(
                (f"{word}(a0, {word}(a1, a2))", f"{word}(a0, a1, a2)"), (f"{word}(a0, a1, {word}(a2, a3))", f"{word}(a0, a1, a2, a3)"),
                (f"{word}(a0, {word}(a1, {word}(a2, a3)))", f"{word}(a0, a1, a2, a3)"), (f"{word}(a0, ({word}(a1, a2)))", f"{word}(a0, a1, a2)"),
                (f"{word}(a0, {word}(a1))", f"{word}(a0, a1)"), (f"{word}(a0, {word}({word}(a1, a2)))", f"{word}(a0, a1, a2)"),
                (f"-{word}(a0, {word}(a1, a2)) + 1", f"-{word}(a0, a1, a2) + 1"),
                (f"{word}(a0, {word}({word}(a1, a2), a3))", f"{word}(a0, {word}(a1, a2), a3)"),
                (f"{word}({word}(a0, {word}(a1, a2)), {word}(a3, {word}(1, 2)))", f"{word}({word}(a0, a1, a2), a3, 1, 2)"),
                (f"{word}(a0, {word}(a1, {word}(a2, {word}(a3, {word}(1, {word}(2, 3))))))", f"{word}(a0, a1, a2, a3, 1, 2, 3)"),
            )

    def test_a_last_part_behind_one_of_the_other_word(self):
        self.told(
            ("min(a0, max(min(a1, a2)))", "min(a0, a1, a2)"), ("max(a0, min(max(a1, a2)))", "max(a0, a1, a2)"),
            ("max(a0, min(max(a1, min(max(a2, a3)))))", "max(a0, a1, a2, a3)"), ("max(min(a0, max(min(a1, a2))))", "min(a0, a1, a2)"),
        )

    def test_neither_last_nor_of_the_same_word(self):
        self.told(*[(text, text) for text in (
            "min(min(a0, a1), a2)", "max(max(a0, a1), a2)", "min(a0, min(a1, a2), a3)", "max(a0, max(a1, a2), a3)", "min(a0, max(a1, a2))",
            "max(a0, min(a1, a2))", "max(a0, min(a1, max(a2, a3)))", "min(max(a0, a1), a2)", "min(max(a0, a1), max(a2, a3))", "min(a0, -min(a1, a2))",
            "min(a0, min(a1, a2) + 1)", "min(a0, g0(min(a1, a2)))", "min(a0, if a1 then a2 else min(a3, 1))", "g0(a0, min(a1, a2))",
            "min(min(min(a0, a1), a2), a3)",
        )])


class Length(Canon):
    def test_longer_and_shorter_than_the_text(self):
        self.told(("a0+1", "a0 + 1"), ("min(a0,1)", "min(a0, 1)"), ("0.000001", "1:1000000"), ("(a0)", "a0"), ("min(a0)", "a0"), ("a0  + 1", "a0 + 1"))
        self.told(("min(a0, min(a1, 2))", "min(a0, a1, 2)"), ("0" * 1990 + "1", "1"), (" " * 1998 + "a0", "a0"))

    def test_longer_than_texts_that_are_taken(self):
        # 100 numbers of 18 digits: 1904 signs without blanks, 2003 with them, and a code of 498 numbers.
        parts = [str(10 ** 17 + part) for part in range(100)]
        text = "min(" + ",".join(parts) + ")"
        printed = "min(" + ", ".join(parts) + ")"
        self.assertEqual((len(text), len(printed), len(row(0, text))), (1904, 2003, 498))
        self.assertEqual(canon(0, text), printed)
        self.assertEqual(canon(0, printed), [-5])
        self.assertEqual(canon(0, text + " " * 96), printed)
        self.assertEqual(canon(0, text + " " * 97), [-5])

    def test_2000_signs_printed_as_they_stand(self):
        parts = [str(10 ** 17 + part) for part in range(100)]
        text = "min(" + ", ".join([parts[0][:15]] + parts[1:]) + ")"
        self.assertEqual(len(text), 2000)
        self.told((text, text))


class HeightAndNesting(Canon):
    def test_a_lower_simple_expression(self):
        """The text's own height is what is refused."""
        sums = {count: " + ".join(["a0"] * count) for count in (30, 31, 32)}
        self.told((f"min({sums[31]})", sums[31]), (f"min(max({sums[30]}))", sums[30]), (f"max(1, max(2, {sums[30]}))", f"max(1, 2, {sums[30]})"))
        for text in (f"min({sums[32]})", f"min(max({sums[31]}))", f"max(1, max(2, {sums[31]}))"):
            self.assertEqual(canon(4, text), [-7])
        self.told(("min(a0, " * 31 + "a1" + ")" * 31, "min(" + "a0, " * 31 + "a1)"), ("max(" * 31 + "a0" + ")" * 31, "a0"))
        self.assertEqual(canon(4, "min(a0, " * 32 + "a1" + ")" * 32), [-7])
        self.assertEqual(canon(4, "max(" * 32 + "a0" + ")" * 32), [-7])

    def test_height_32_that_stays(self):
        for text in (" + ".join(["a0"] * 32), "-" * 31 + "a0", "g0(" * 31 + "a0" + ")" * 31, "min(" * 31 + "a0" + ", 1)" * 31):
            self.told((text, text))
        for text in (" + ".join(["a0"] * 33), "-" * 32 + "a0", "g0(" * 32 + "a0" + ")" * 32, "min(" * 32 + "a0" + ", 1)" * 32):
            self.assertEqual(canon(4, text), [-7])

    def test_32_and_33_around_one_another_that_stay(self):
        # -(not ..) is 3 around one another, and height 2.
        deep = "-(not " * 10 + "a0" + ")" * 10
        self.told(("--" + deep, "--" + deep))
        self.assertEqual(canon(4, "---" + deep), [-6])
        deep = "-(if a0 then a1 else " * 10 + "a0" + ")" * 10
        self.told(("--" + deep, "--" + deep))
        self.assertEqual(canon(4, "---" + deep), [-6])

    def test_32_and_33_around_one_another_that_become_fewer(self):
        """How many there are in the text is what is refused."""
        for steps, around, behind, printed in (
            (32, "(", ")", "a0"), (16, "((", "))", "a0"), (16, "-(", ")", "-" * 16 + "a0"), (16, "not (", ")", "not " * 16 + "a0"),
            (16, "abs((", "))", "abs(" * 16 + "a0" + ")" * 16), (16, "min((", "))", "a0"), (16, "max(1, (", "))", "max(" + "1, " * 16 + "a0)"),
            (16, "(if a1 then a2 else ", ")", "if a1 then a2 else " * 16 + "a0"),
        ):
            text = around * steps + "a0" + behind * steps
            self.told((text, printed))
            self.assertEqual(canon(4, "(" + text + ")"), [-6])
        self.told(("(" * 31 + "a0 ^ a1" + ")" * 31, "a0 ^ a1"), ("a0 ^ " + "(" * 31 + "a1" + ")" * 31, "a0 ^ a1"))
        self.assertEqual(canon(4, "a0 ^ " + "(" * 32 + "a1" + ")" * 32), [-6])
        self.assertEqual(canon(4, "(" * 32 + "a0 ^ a1" + ")" * 32), [-6])


if __name__ == "__main__":
    unittest.main()
