"""Texts: blanks, numbers, names, words, signs, and wrong tokens of each sort."""

import unittest

import stackback.stackcode
from helper import back, code, row, signs

BIG = 10 ** 18


class Blanks(unittest.TestCase):
    def test_each_blank_between_tokens(self):
        for blank in " \t\n\r":
            self.assertEqual(row(1, f"{blank}a0{blank}{blank}+{blank}1{blank}"), [1, 0, 0, 1, 1, 4, 0])

    def test_no_blank_is_needed_beside_signs(self):
        self.assertEqual(row(1, "a0+1"), [1, 0, 0, 1, 1, 4, 0])
        self.assertEqual(row(1, "min(a0,1)"), [1, 0, 0, 1, 1, 10, 0])

    def test_other_signs_are_no_blanks(self):
        for sign in (0, 11, 12, 14, 28, 31, 127, 133, 160, 8195, 12288):
            self.assertEqual(stackback.stackcode.code(1, [97, 48, sign]), [-6])

    def test_no_blank_within_a_token(self):
        for text in ("1 2", "1 .5", "1. 5", "1 :2", "1: 2", "a 0", "f1 .free", "f1. free", "1 < = 2", "4 / / 2", "1 < > 2"):
            self.assertEqual(code(1, text), [-6], text)


class Numbers(unittest.TestCase):
    def test_values(self):
        for text, above, below in (
            ("0", 0, 1), ("7", 7, 1), ("007", 7, 1), ("12.50", 25, 2), ("6:4", 3, 2), ("3:2", 3, 2), ("0:5", 0, 1),
            ("0.0", 0, 1), ("0.125", 1, 8), ("1.0", 1, 1), ("10:5", 2, 1), ("00:01", 0, 1), ("006:004", 3, 2),
        ):
            self.assertEqual(row(0, text), [0, above, below], text)

    def test_bounds_hold_in_lowest_terms(self):
        for text, above, below in (
            (f"{BIG}", BIG, 1), (f"1:{BIG}", 1, BIG), (f"{BIG}:{BIG - 1}", BIG, BIG - 1),
            (f"{2 * BIG}:2", BIG, 1), (f"2:{2 * BIG}", 1, BIG), (f"{3 * BIG}:{3 * BIG}", 1, 1),
            ("0." + "0" * 17 + "1", 1, BIG), (f"{BIG}.000", BIG, 1), ("0" * 50 + "5", 5, 1),
            ("1." + "0" * 100, 1, 1), ("0.5" + "0" * 100, 1, 2), ("0:" + "9" * 40, 0, 1),
        ):
            self.assertEqual(row(0, text), [0, above, below], text)

    def test_above_the_bounds(self):
        for text in (
            f"{BIG + 1}", f"1:{BIG + 1}", f"{BIG + 1}:2", f"3:{BIG + 1}", "0." + "0" * 18 + "1", f"{BIG}.5",
            f"{2 * BIG + 2}:2", "9" * 2000, "0." + "1" * 1998, "1:" + "7" * 1998,
        ):
            self.assertEqual(code(0, text), [-6], text)

    def test_nothing_divided_by_zero(self):
        for text in ("1:0", "0:0", "5:000", "1 + 1:0"):
            self.assertEqual(code(0, text), [-6], text)

    def test_what_stands_right_behind(self):
        for behind in ("a", "Z", "_", ".", ":", ".5", ":5", "if", "a0", ".a"):
            for number in ("1.5", "1:5"):
                self.assertEqual(code(1, number + behind), [-6], number + behind)
        for text in ("1a", "1Z", "1_", "1.", "1:", "1.a", "1:a", "1..5", "1::5", "1.:5", "1._", "5then"):
            self.assertEqual(code(1, text), [-6], text)
        for text in ("1)", "1,", "1(", "1 a0"):
            self.assertEqual(code(1, text), [-6], text)
        self.assertEqual(row(0, "1-2"), [0, 1, 1, 0, 2, 1, 4, 1])

    def test_digits_must_stand_before_point_and_colon(self):
        for text in (".5", ":5", "1 + .5"):
            self.assertEqual(code(0, text), [-6], text)


class Names(unittest.TestCase):
    def test_a_point_and_what_is_behind_it_belong_to_the_name_once(self):
        self.assertEqual(row(0, "f1.free"), [2, 257])
        self.assertEqual(code(0, "a.b"), [-8])
        for text in ("a.b.c", "f1.free.x", "a.", "a.1", "a._", "a..b", "a .b", "a.b.", "f1.free.1", "a0.5"):
            self.assertEqual(code(1, text), [-6], text)

    def test_lengths(self):
        for name in ("a" * 24, "a" * 12 + "." + "b" * 11, "Z_9" * 8):
            self.assertEqual(len(name), 24)
            self.assertEqual(code(0, name), [-8], name)
            self.assertEqual(code(0, name + "x"), [-6], name + "x")
        self.assertEqual(code(0, "a" * 23 + ".b"), [-6])
        self.assertEqual(code(0, "a" * 24 + ".b"), [-6])
        self.assertEqual(code(0, "a" * 2000), [-6])

    def test_signs_of_names(self):
        for name in ("A", "Z", "z", "a_", "a_1", "aZ09_", "a.b_1", "A0", "Clock"):
            self.assertEqual(code(1, name), [-8], name)
        for name in ("_a", "_", "a@", "a[", "a`", "a{", "a/", "a?"):
            self.assertEqual(code(1, name), [-6], name)

    def test_words_standing_alone_are_no_names(self):
        words = "and or not if then else floor ceil abs sign num den min max".split()
        for word in words:
            self.assertEqual(code(0, word), [-6], word)
            self.assertEqual(code(0, f"1 + {word}"), [-6], word)
            for name in (word + ".x", word + "0", word + "_", word.upper(), word.capitalize(), "x" + word):
                self.assertEqual(code(0, name), [-8], name)
            self.assertEqual(code(0, f"{word}.x(1)"), [-8], word)
            self.assertEqual(code(0, word + ".5"), [-6], word)

    def test_the_longest_fits(self):
        self.assertEqual(code(1, "nota0"), [-8])
        self.assertEqual(code(1, "a0anda0"), [-8])
        self.assertEqual(row(1, "not(a0)"), [1, 0, 3, 1])


class Signs(unittest.TestCase):
    def test_each_sign_that_joins_two(self):
        for number, sign in enumerate("+ - * / // % ^ = <> < <= > >=".split()):
            for text in (f"1 {sign} 2", f"1{sign}2"):
                self.assertEqual(row(0, text), [0, 1, 1, 0, 2, 1, 4, number], text)
            self.assertEqual(back(0, f"1{sign}2"), f"1 {sign} 2")

    def test_the_longest_sign_fits(self):
        self.assertEqual(row(0, "4//-2"), [0, 4, 1, 0, 2, 1, 3, 0, 4, 4])
        for text in ("4///2", "4////2", "1<=>2", "1<>=2", "1=<2", "1=>2", "1==2", "1><2", "1>>2", "2**3", "1<<2"):
            self.assertEqual(code(0, text), [-6], text)

    def test_any_other_sign_is_wrong(self):
        right = set(signs("+-*/%^=<>(), \t\n\r_.:"))
        others = [sign for sign in range(-3, 260) if sign not in right and not (sign < 128 and chr(max(sign, 0)).isalnum())]
        self.assertGreater(len(others), 150)
        for sign in others + [-BIG, BIG, 10 ** 9, 256 + 97, 0x391, 0x660]:
            for text in ([sign], [97, 48, sign], [sign, 97, 48], [97, 48, 43, sign, 49], [97, 48, 32, sign]):
                self.assertEqual(stackback.stackcode.code(1, text), [-6], text)

    def test_lone_points_colons_underscores(self):
        for text in (".", ":", "_", "a0 .", "a0 :", "a0 _", "a0:1", "(.)"):
            self.assertEqual(code(1, text), [-6], text)


if __name__ == "__main__":
    unittest.main()
