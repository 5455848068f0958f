"""What same tells: whether two texts have the same code."""

import unittest

import stackback.stackcode
from helper import row, same, signs

YES = [0, 1]
NO = [0, 0]


class Same(unittest.TestCase):
    def alike(self, *pairs):
        self.answered(YES, pairs)

    def unlike(self, *pairs):
        self.answered(NO, pairs)

    def answered(self, answer, pairs):
        """Either way round, and each beside itself."""
        for text, other in pairs:
            with self.subTest(text=text, other=other):
                self.assertEqual(same(4, text, other), answer)
                self.assertEqual(same(4, other, text), answer)
                self.assertEqual(same(4, text, text), YES)
                self.assertEqual(same(4, other, other), YES)


class Alike(Same):
    def test_equal_texts(self):
        self.alike(*[(text, text) for text in (
            "a0", "0", "5:2", "clock", "g0", "-a0", "not a0", "a0 + a1", "a0 ^ a1", "a0 <= a1", "a0 and a1", "a0 or a1", "if a0 then a1 else a2",
            "min(a0, a1)", "max(a0, a1, a2)", "g0(a0, a1)", "t0(a0)", "floor(a0)", "a3 < 1",
        )])

    def test_blanks(self):
        self.alike(
            ("a0+a1", "a0 + a1"), (" a0", "a0"), ("a0", "a0\t"), ("\na0 \r", "\ta0"), ("min(a0,a1)", "min ( a0 , a1 )"), ("- a0", "-a0"),
            ("if(a0)then(1)else(2)", "if a0 then 1 else 2"), ("g0 (a0)", "g0(a0)"), ("not  a0", "not\na0"),
        )

    def test_brackets(self):
        self.alike(
            ("(a0)", "a0"), ("((a0 + a1))", "a0 + a1"), ("(a0 + a1) + a2", "a0 + a1 + a2"), ("a0 + (a1 * a2)", "a0 + a1 * a2"),
            ("a0 ^ (a1 ^ a2)", "a0 ^ a1 ^ a2"), ("(a0 and a1) or a2", "a0 and a1 or a2"), ("-(a0 ^ a1)", "-a0 ^ a1"), ("not (a0 = a1)", "not a0 = a1"),
            ("(not a0) and a1", "not a0 and a1"), ("g0((a0), (a1))", "g0(a0, a1)"),
        )

    def test_how_a_number_is_written(self):
        self.alike(
            ("2.5", "5:2"), ("12.50", "25:2"), ("6:4", "3:2"), ("6:4", "1.5"), ("007", "7"), ("7.0", "7"), ("7:1", "7"), ("14:2", "7.000"),
            ("0", "0.0"), ("0:9", "000"), ("-0.5", "-1:2"), ("a0 + 0.25", "a0 + 2:8"), ("1.0", "3:3"),
        )

    def test_min_and_max(self):
        for word, another in (("min", "max"), ("max", "min")):
            self.alike(
                (f"{word}(a0)", "a0"), (f"{word}(a0)", f"{another}(a0)"), (f"{word}({another}(a0))", "a0"), (f"{word}(a0 + a1)", "a0 + a1"),
                (f"{word}(a0, {word}(a1, a2))", f"{word}(a0, a1, a2)"), (f"{word}(a0, a1, {word}(a2, a3))", f"{word}(a0, {word}(a1, {word}(a2, a3)))"),
                (f"{word}(a0, {word}(a1))", f"{word}(a0, a1)"), (f"{word}({word}(a0, a1))", f"{word}(a0, a1)"),
                (f"{word}(a0, {another}({word}(a1, a2)))", f"{word}(a0, a1, a2)"), (f"{word}(a0 + a1) * 2", "(a0 + a1) * 2"),
                (f"g0({word}(a0), a1)", "g0(a0, a1)"), (f"{word}({word}(a0), a1)", f"{word}(a0, a1)"),
            )

    def test_all_at_once(self):
        self.alike(("min( (a0) ,min(06:4,max(a1)))", "min(a0, 1.5, a1)"), ("if max(1) then(-(a0))else 2.0 ^ 2", "if 1 then -a0 else 2 ^ (2)"))


class Unlike(Same):
    def test_one_sign(self):
        signs_of_two = "+ - * / // % ^ = <> < <= > >=".split() + ["and", "or"]
        for place, sign in enumerate(signs_of_two):
            for another in signs_of_two[place + 1:]:
                self.unlike((f"a0 {sign} a1", f"a0 {another} a1"))
        words = ["-(a0)", "not(a0)"] + [f"{word}(a0)" for word in "floor ceil abs sign num den".split()] + ["(a0)", "g0(a0)", "t0(a0)"]
        for place, text in enumerate(words):
            for another in words[place + 1:]:
                self.unlike((text, another))
        self.unlike(("min(a0, a1)", "max(a0, a1)"), ("min(a0, max(a1, a2))", "min(a0, a1, a2)"), ("a0", "-a0"), ("5", "-5"))

    def test_one_name(self):
        self.unlike(
            ("a0", "a1"), ("clock", "living"), ("v0", "v1"), ("f1.free", "f1.open"), ("f1.free", "f2.free"), ("g0", "g1"), ("g0(a0)", "g1(a0)"),
            ("t0(a0)", "t1(a0)"), ("g0", "g0(a0)"), ("g0(a0)", "g0(a0, a0)"), ("a0 + a1", "a0 + a2"), ("a0", "p0"), ("k0", "v0"),
            ("if a0 then a1 else a2", "if a0 then a1 else a3"), ("min(a0, a1, a2)", "min(a0, a3, a2)"), ("a0", "1"),
        )

    def test_one_number(self):
        self.unlike(
            ("0", "1"), ("1", "2"), ("1:2", "1:3"), ("1:2", "2:1"), ("1.5", "1.05"), ("a0 + 1", "a0 + 2"), ("999999999999999999", "1000000000000000000"),
            ("1:999999999999999999", "1:1000000000000000000"), ("if a0 then 1 else 0", "if a0 then 1 else 2"), ("min(1, 2)", "min(1, 3)"), ("1:2", "1"),
        )

    def test_the_order_of_two_parts(self):
        for sign in "+ - * / // % ^ = <> < <= > >= and or".split():
            self.unlike((f"a0 {sign} a1", f"a1 {sign} a0"), (f"a0 {sign} 1", f"1 {sign} a0"))
        self.unlike(
            ("min(a0, a1)", "min(a1, a0)"), ("max(a0, a1, a2)", "max(a0, a2, a1)"), ("g0(a0, a1)", "g0(a1, a0)"),
            ("if a0 then a1 else a2", "if a0 then a2 else a1"), ("if a0 then a1 else a2", "if a1 then a0 else a2"), ("a0 < a1", "a1 > a0"),
        )

    def test_brackets_that_tell_something(self):
        self.unlike(
            ("a0 + (a1 + a2)", "a0 + a1 + a2"), ("a0 - (a1 - a2)", "a0 - a1 - a2"), ("(a0 + a1) * a2", "a0 + a1 * a2"), ("(a0 ^ a1) ^ a2", "a0 ^ a1 ^ a2"),
            ("-(a0 * a1)", "-a0 * a1"), ("(-a0) ^ a1", "-a0 ^ a1"), ("not (a0 and a1)", "not a0 and a1"), ("a0 or (a1 or a2)", "a0 or a1 or a2"),
            ("min(min(a0, a1), a2)", "min(a0, a1, a2)"), ("min(a0, min(a1, a2), a3)", "min(a0, a1, a2, a3)"), ("min(max(a0, a1), a2)", "min(a0, a1, a2)"),
            ("(if a0 then a1 else a2) + 1", "if a0 then a1 else a2 + 1"),
        )

    def test_where_one_code_is_the_beginning_of_the_other(self):
        pairs = [
            ("a0", "-a0"), ("a0", "--a0"), ("-a0", "not -a0"), ("a0", "a0 + a1"), ("a0 + a1", "a0 + a1 + a2"), ("a0", "t0(a0)"), ("a0", "min(a0, a1)"),
            ("min(a0, a1)", "min(min(a0, a1), a2)"), ("a0", "a0 and a1"), ("a0", "a0 or a1"), ("a0", "if a0 then a1 else a2"), ("1:2", "floor(1:2)"),
            ("min(a0, a1)", "-min(a0, a1)"), ("a0 and a1", "a0 and a1 or a2"), ("g0", "g0 = 1"), ("a0", "g0(a0, a1)"),
            ("if a0 then a1 else a2", "-(if a0 then a1 else a2)"),
        ]
        for text, other in pairs:
            shorter = row(4, text)
            self.assertEqual(row(4, other)[:len(shorter)], shorter)
        self.unlike(*pairs)

    def test_nothing_is_folded(self):
        self.unlike(("1 + 1", "2"), ("a0 + 0", "a0"), ("--a0", "a0"), ("if 1 then a0 else a1", "a0"), ("a0 * 1", "a0"), ("-0", "0"), ("min(1, 2)", "1"))


class Answers(unittest.TestCase):
    def test_one_number_behind_the_0(self):
        self.assertEqual(stackback.stackcode.same(1, [97, 48], [97, 48]), [0, 1])
        self.assertEqual(stackback.stackcode.same(1, [97, 48], [49]), [0, 0])
        for answer in (same(1, "a0", "(a0)"), same(1, "a0", "1"), same(1, "a0", "")):
            self.assertIs(type(answer), list)
            self.assertEqual({type(number) for number in answer}, {int})

    def test_one_and_the_same_list(self):
        text = signs("min(a0, min(a1, 2.50))")
        self.assertEqual(stackback.stackcode.same(2, text, text), [0, 1])
        self.assertEqual(text, signs("min(a0, min(a1, 2.50))"))
        wrong = signs("a0 +")
        self.assertEqual(stackback.stackcode.same(2, wrong, wrong), [-6])
        self.assertEqual(wrong, signs("a0 +"))

    def test_arguments_by_name(self):
        self.assertEqual(stackback.stackcode.same(n=1, text=[97, 48], other=[49]), [0, 0])
        self.assertEqual(stackback.stackcode.same(other=[], text=[49], n=0), [-6])
        self.assertEqual(stackback.stackcode.canon(n=1, text=[40, 97, 48, 41]), [0, 2, 97, 48])


if __name__ == "__main__":
    unittest.main()
