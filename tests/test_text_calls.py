"""What code, canon and same have in common: when a text is refused, in which order, and what is left alone."""

import sys
import unittest

from stackback.stackcode import canon, code, same
from helper import Watched, row, signs

BIG = 10 ** 18
# 125 parts of 2 numbers, 124 joinings of 2, and - before it all.
CODE_500 = "-min(" + ", ".join(["a0"] * 125) + ")"
# The same with a number of 3 as its first part.
CODE_501 = CODE_500.replace("a0", "1", 1)
TEXT_2000 = "a0" + " " * 1998
DEEP_33 = "(" * 33 + "a0" + ")" * 33
HIGH_33 = " + ".join(["a0"] * 33)

# For each refusal texts that are due for it alone.
ALONE = {
    -5: (TEXT_2000 + " ", "a0" + " " * 2998, "0" * 2000 + "5"),
    -6: ("", " ", "a0 +", "#", "(a0", "a0)", "min()", "1:0", "a0 a0", "1.", "a.b.c", "if a0 then 1", "-", "a0 = a0 = a0", DEEP_33),
    -7: (HIGH_33, "-" * 32 + "a0", "min(" * 32 + "a0" + ")" * 32, "max(1, " * 32 + "a0" + ")" * 32),
    -8: ("x", "a1", "a00", "g64", "t0", "g0(1, 2, 3, 4, 5, 6, 7, 8, 9)", "v64", "t0(1, 2)", "a0(1)", "min.x", "f1", "p16", "Clock"),
    -2: (CODE_501, "min(" + ", ".join(["a0"] * 126) + ")", "min(" + ",".join(["1"] * 333) + ")"),
}
# For each two refusals a text that is due for both, by the one that is told first.
BOTH = (
    (-5, "a0 +" + " " * 2000), (-5, " " * 2001), (-5, "(" * 2001), (-5, HIGH_33 + " " * 2000), (-5, "x" + " " * 2000), (-5, CODE_501 + " " * 2000),
    (-6, HIGH_33 + " +"), (-6, "-" * 33 + "a0"), (-6, "x +"), (-6, "x + " + DEEP_33), (-6, CODE_501 + " 1"), (-6, CODE_501 + " + " + DEEP_33),
    (-7, HIGH_33 + " + x"), (-7, "-" * 32 + "x"), (-7, "+".join([CODE_501] + ["1"] * 40)), (-8, CODE_501 + " + x"),
    (-8, "g0(" + ", ".join(["a0"] * 300) + ")"), (-8, CODE_501.replace("a0", "a1", 1)),
)
REFUSED = [(number, text) for number, texts in ALONE.items() for text in texts] + list(BOTH)
RIGHT = ("a0", "min(a0, min(1, 2))", CODE_500, TEXT_2000, "-" * 31 + "a0", "(" * 32 + "a0" + ")" * 32, "g0(" + "1, " * 7 + "1)")


def beside_right(n, text):
    """What same answers where the first text is right."""
    return same(n, [49], text)


def before_right(n, text):
    """What same answers where the second text is right."""
    return same(n, text, [49])


def beside_itself(n, text):
    return same(n, text, text)


CALLS = (code, canon, beside_itself, beside_right, before_right)


class Refused(unittest.TestCase):
    def refused(self, n, text, answer):
        for call in CALLS:
            with self.subTest(call=call.__name__, n=n, text=text):
                self.assertEqual(call(n, signs(text)), [answer])

    def test_right_texts(self):
        for text in RIGHT:
            for call in CALLS:
                with self.subTest(call=call.__name__, text=text):
                    self.assertEqual(call(1, signs(text))[0], 0)

    def test_each_alone(self):
        for number, texts in ALONE.items():
            for text in texts:
                self.refused(1, text, number)

    def test_the_one_that_is_told_first(self):
        for number, text in BOTH:
            self.refused(1, text, number)

    def test_parameters_go_first_of_all(self):
        for n in (-1, 9, -2, 10, BIG, -BIG):
            for text in [text for number, text in REFUSED] + list(RIGHT):
                self.refused(n, text, -1)

    def test_parameters_from_0_to_8(self):
        for n in range(9):
            for call in CALLS:
                self.assertEqual(call(n, [49])[0], 0)
                self.assertEqual(call(n, signs(f"a{n}")), [-8])
                if n > 0:
                    self.assertEqual(call(n, signs(f"a{n - 1}"))[0], 0)
            self.assertEqual(canon(n, [49]), [0, 1, 49])
            self.assertEqual(same(n, [49], [49]), [0, 1])

    def test_signs_that_are_no_text_of_python(self):
        for sign in (-1, 0, 127, 128, 255, 1114112, BIG, -BIG):
            for call in CALLS:
                self.assertEqual(call(1, [sign]), [-6])
                self.assertEqual(call(1, signs("a0 ") + [sign]), [-6])
                self.assertEqual(call(1, [sign] * 2001), [-5])

    def test_lengths(self):
        # What stands behind the - of CODE_501 has 499 numbers, and the - 2.
        self.assertEqual((len(TEXT_2000), len(row(1, CODE_500)), len(row(1, CODE_501[1:]))), (2000, 500, 499))
        self.assertEqual(canon(1, signs(CODE_500)), [0, len(CODE_500)] + signs(CODE_500))
        self.assertEqual(canon(1, signs(TEXT_2000)), [0, 2, 97, 48])
        self.assertEqual(same(1, signs(CODE_500), signs(TEXT_2000)), [0, 0])
        self.assertEqual(same(1, signs(CODE_500), signs(CODE_500.replace(" ", ""))), [0, 1])


class TwoTexts(unittest.TestCase):
    def test_the_first_is_refused_then_the_second(self):
        for number, text in REFUSED:
            for another, other in REFUSED:
                self.assertEqual(same(1, signs(text), signs(other)), [number], (text, other))

    def test_a_right_one_beside_a_refused_one(self):
        for text in RIGHT:
            for number, other in REFUSED:
                self.assertEqual(same(1, signs(text), signs(other)), [number], (text, other))
                self.assertEqual(same(1, signs(other), signs(text)), [number], (other, text))

    def test_each_right_one_beside_each(self):
        for text in RIGHT:
            for other in RIGHT:
                alike = row(1, text) == row(1, other)
                self.assertEqual(same(1, signs(text), signs(other)), [0, 1 if alike else 0])

    def test_parameters_go_before_both(self):
        for n in (-1, 9):
            for number, text in REFUSED:
                self.assertEqual(same(n, signs(text), signs("a0")), [-1])
                self.assertEqual(same(n, signs("a0"), signs(text)), [-1])

    def test_both_texts_have_the_same_parameters(self):
        self.assertEqual(same(2, signs("a0"), signs("a1")), [0, 0])
        self.assertEqual(same(1, signs("a0"), signs("a1")), [-8])
        self.assertEqual(same(1, signs("a1"), signs("a0")), [-8])
        self.assertEqual(same(0, signs("1"), signs("a0")), [-8])


class LeftAlone(unittest.TestCase):
    def test_lists_are_as_they_were(self):
        texts = [text for number, text in REFUSED] + list(RIGHT) + ["if a0 then min(1, min(2.50, a0)) else a0 or g1(t2(6:4), v0)"]
        for text in texts:
            for call in CALLS:
                for n in (1, 9):
                    given = signs(text)
                    answer = call(n, Watched(given))
                    self.assertEqual(call(n, given), answer)
                    self.assertEqual(given, signs(text))
            given, other = signs(text), signs("(a0)")
            same(1, given, other)
            same(1, other, given)
            self.assertEqual((given, other), (signs(text), signs("(a0)")))

    def test_what_is_answered_is_no_list_that_was_handed_in(self):
        given = signs("a0 + 1")
        answer = canon(1, given)
        answer.clear()
        self.assertEqual(given, signs("a0 + 1"))

    def test_nothing_is_kept(self):
        for call in CALLS:
            for text in ("a0", "min(a0, min(1, 2))", "2.50", "a0 and 1", "(a0"):
                given = signs(text)
                first = call(1, given)
                wanted = list(first)
                first.clear()
                call(1, signs("(("))
                call(9, [])
                call(2, signs("if a1 then g0(1) else max(7, max(8, a0))"))
                self.assertEqual(call(1, given), wanted)

    def test_answers_are_lists_of_whole_numbers(self):
        for text in ("a0", "1 < 2", "min(1, min(a0))", "", "x", "not 1:2"):
            for call in CALLS:
                for n in (1, 9):
                    answer = call(n, signs(text))
                    self.assertIs(type(answer), list)
                    self.assertEqual({type(number) for number in answer}, {int})

    def test_calls_within_one_another_stay_few(self):
        """Long and high inputs are answered where Python allows but few calls more."""
        depth = 0
        frame = sys._getframe()
        while frame:
            depth += 1
            frame = frame.f_back
        limit = sys.getrecursionlimit()
        texts = ["+".join(["1"] * 1000), "-" * 1999 + "1", "(" * 2000, "a0^" * 666 + "a0", "if " * 666, "not " * 499 + "a0",
                 "(" * 32 + "a0" + ")" * 32, "if 1 then 2 else " * 31 + "a0", "g1(" * 31 + "a0" + ")" * 31, "min(1, " * 31 + "a0" + ")" * 31,
                 "max(" * 31 + "a0" + ", 1)" * 31, " + ".join(["a0"] * 32), CODE_500, TEXT_2000]
        texts = [signs(text) for text in texts]
        answers = []
        try:
            sys.setrecursionlimit(depth + 150)
            for call in (canon, beside_itself):
                answers.append([call(1, text)[0] for text in texts])
        finally:
            sys.setrecursionlimit(limit)
        self.assertEqual(answers, [[-7, -6, -6, -6, -6, -6, 0, 0, 0, 0, 0, 0, 0, 0]] * 2)


if __name__ == "__main__":
    unittest.main()
