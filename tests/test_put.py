"""What put tells: the code that comes when a part of one code's simple expression is replaced by another's."""

import unittest

import stackback.stackcode
from helper import Watched, parted, put, put_row, row, tree

BIG = 10 ** 18
A = [1, 0]
NEW = "a3"


def came(i, text, other=NEW):
    """What comes, printed."""
    return tree(4, put_row(4, i, text, other))


def balanced(part, count, sign):
    """A text of count parts joined by a sign, so that it is as low as can be."""
    texts = [part] * count
    while len(texts) > 1:
        joined = [f"({texts[at]} {sign} {texts[at + 1]})" for at in range(0, len(texts) - 1, 2)]
        texts = joined + texts[len(texts) - len(texts) % 2:]
    return texts[0]


class EachPart(unittest.TestCase):
    def each(self, text, *wanted):
        """Every part in order is replaced by a3, the whole as part 0 too."""
        self.assertEqual(len(parted(4, row(4, text))), len(wanted))
        for i, printed in enumerate(wanted):
            with self.subTest(text=text, i=i):
                self.assertEqual(came(i, text), printed)
                self.assertEqual(put_row(4, i, text, NEW), row(4, printed))
        self.assertEqual(put(4, len(wanted), text, NEW), [-12])
        self.assertEqual(put(4, -1, text, NEW), [-12])

    def test_leaves(self):
        for text in ("7", "3:2", "a0", "clock", "g0"):
            self.each(text, "a3")

    def test_one_part(self):
        for text in ("-{}", "not {}", "floor({})", "ceil({})", "abs({})", "sign({})", "num({})", "den({})", "g1({})", "t1({})"):
            self.each(text.format("a0"), "a3", text.format("a3"))
        self.each("--a0", "a3", "-a3", "--a3")

    def test_two_parts(self):
        for sign in "+ - * / // % ^ = <> < <= > >= and or".split():
            self.each(f"a0 {sign} a1", "a3", f"a3 {sign} a1", f"a0 {sign} a3")
            self.each(f"a0 {sign} floor(a1)", "a3", f"a3 {sign} floor(a1)", f"a0 {sign} a3", f"a0 {sign} floor(a3)")
        self.each("a0 + a1 + a2", "a3", "a3 + a2", "a3 + a1 + a2", "a0 + a3 + a2", "a0 + a1 + a3")

    def test_if(self):
        self.each("if a0 then a1 else a2", "a3", "if a3 then a1 else a2", "if a0 then a3 else a2", "if a0 then a1 else a3")
        self.each("if -a0 then -a1 else -a2", "a3", "if a3 then -a1 else -a2", "if -a3 then -a1 else -a2", "if -a0 then a3 else -a2",
                  "if -a0 then -a3 else -a2", "if -a0 then -a1 else a3", "if -a0 then -a1 else -a3")

    def test_min_max_and_formulas(self):
        for word in ("min", "max", "g1"):
            self.each(f"{word}(a0, a1)", "a3", f"{word}(a3, a1)", f"{word}(a0, a3)")
            self.each(f"{word}(a0, -a1, a2, 1)", "a3", f"{word}(a3, -a1, a2, 1)", f"{word}(a0, a3, a2, 1)", f"{word}(a0, -a3, a2, 1)",
                      f"{word}(a0, -a1, a3, 1)", f"{word}(a0, -a1, a2, a3)")
        self.each("g1(1, 2, 3, 4, 5, 6, 7, 8)", "a3", *["g1(" + ", ".join("12345678").replace(digit, "a3") + ")" for digit in "12345678"])

    def test_the_simple_expression_is_what_has_parts(self):
        self.each("min(a0, min(a1, v0))", "a3", "min(a3, a1, v0)", "min(a0, a3, v0)", "min(a0, a1, a3)")
        self.each("min(min(a0, a1), v0)", "a3", "min(a3, v0)", "min(min(a3, a1), v0)", "min(min(a0, a3), v0)", "min(min(a0, a1), a3)")
        self.each("max(min(a0))", "a3")

    def test_in_one_another(self):
        self.each("if a0 and 1 then min(a0, g1(a1, 2)) else -(a0 or t3(a1))",
                  "a3",
                  "if a3 then min(a0, g1(a1, 2)) else -(a0 or t3(a1))",
                  "if a3 and 1 then min(a0, g1(a1, 2)) else -(a0 or t3(a1))",
                  "if a0 and a3 then min(a0, g1(a1, 2)) else -(a0 or t3(a1))",
                  "if a0 and 1 then a3 else -(a0 or t3(a1))",
                  "if a0 and 1 then min(a3, g1(a1, 2)) else -(a0 or t3(a1))",
                  "if a0 and 1 then min(a0, a3) else -(a0 or t3(a1))",
                  "if a0 and 1 then min(a0, g1(a3, 2)) else -(a0 or t3(a1))",
                  "if a0 and 1 then min(a0, g1(a1, a3)) else -(a0 or t3(a1))",
                  "if a0 and 1 then min(a0, g1(a1, 2)) else a3",
                  "if a0 and 1 then min(a0, g1(a1, 2)) else -a3",
                  "if a0 and 1 then min(a0, g1(a1, 2)) else -(a3 or t3(a1))",
                  "if a0 and 1 then min(a0, g1(a1, 2)) else -(a0 or a3)",
                  "if a0 and 1 then min(a0, g1(a1, 2)) else -(a0 or t3(a3))")


class WhatIsPut(unittest.TestCase):
    def test_number_by_number(self):
        self.assertEqual(stackback.stackcode.put(2, 1, [1, 0, 3, 0], [1, 1]), [0, 4, 1, 1, 3, 0])
        self.assertEqual(stackback.stackcode.put(1, 2, A + A + [4, 0], [0, 1, 2]), [0, 7, 1, 0, 0, 1, 2, 4, 0])

    def test_each_form_for_a_part(self):
        for other in ("7", "a1", "-a1", "not a1", "a1 + a2", "a1 ^ a2", "a1 < a2", "a1 and a2", "a1 or a2", "if a1 then a2 else a3", "max(a1, a2)",
                      "g1(a1, a2)", "t1(a1)", "floor(a1)", "g7", "clock", "2:3"):
            self.assertEqual(put_row(4, 1, "a0 and 1", other), row(4, f"({other}) and 1"))
            self.assertEqual(put_row(4, 2, "a0 and 1", other), row(4, f"a0 and ({other})"))
            self.assertEqual(put_row(4, 1, "a0 or 1", other), row(4, f"({other}) or 1"))
            self.assertEqual(put_row(4, 2, "a0 or 1", other), row(4, f"a0 or ({other})"))
            self.assertEqual(put_row(4, 1, "if 1 then 2 else 3", other), row(4, f"if {other} then 2 else 3"))
            self.assertEqual(put_row(4, 2, "if 1 then 2 else 3", other), row(4, f"if 1 then {other} else 3"))
            self.assertEqual(put_row(4, 3, "if 1 then 2 else 3", other), row(4, f"if 1 then 2 else {other}"))
            self.assertEqual(put_row(4, 1, "2 ^ 3", other), row(4, f"({other}) ^ 3"))
            self.assertEqual(put_row(4, 2, "2 - 3", other), row(4, f"2 - ({other})"))
            self.assertEqual(put_row(4, 2, "min(1, 2, 3)", other), row(4, f"min(1, {other}, 3)"))
            self.assertEqual(put_row(4, 1, "-a0", other), row(4, f"-({other})"))
            self.assertEqual(put_row(4, 1, "g0(1, 2)", other), row(4, f"g0({other}, 2)"))
            self.assertEqual(put_row(4, 0, "g0(1, 2)", other), row(4, other))

    def test_a_formula_with_parts_and_a_number(self):
        self.assertEqual(came(2, "a0 + a1", "g1(a2, t2(a3), 1)"), "a0 + g1(a2, t2(a3), 1)")
        self.assertEqual(came(1, "g1(a0)", "g2(a1, a2)"), "g1(g2(a1, a2))")
        self.assertEqual(came(1, "g1(a0 + 1, a2)", "5:2"), "g1(5:2, a2)")
        self.assertEqual(came(0, "g1(a0 + 1, a2)", "0"), "0")

    def test_a_part_replaced_by_itself(self):
        for text in ("a0", "if a0 and 1 then min(a0, g1(a1, 2)) else -(a0 or t3(a1))", "min(a0, min(a1, v0))", "min(min(a0, a1), v0)"):
            numbers = row(4, text)
            instructions = cut_into_instructions(numbers)
            for i, (form, begin, count, height) in enumerate(parted(4, numbers)):
                itself = [number for instruction in instructions[begin:begin + count] for number in instruction]
                self.assertEqual(stackback.stackcode.put(4, i, numbers, itself), [0, len(numbers)] + numbers)

    def test_the_second_is_not_changed_by_its_place(self):
        """Only its simple expression counts, however its text was written."""
        self.assertEqual(came(1, "-a0", "min(max(a1))"), "-a1")
        self.assertEqual(came(2, "max(a0, a1)", "min(a2, min(a3, 1))"), "max(a0, min(a2, a3, 1))")

    def test_nothing_is_folded(self):
        self.assertEqual(came(2, "1 + a0", "2"), "1 + 2")
        self.assertEqual(came(1, "if a0 then a1 else a2", "1"), "if 1 then a1 else a2")


class MinAndMax(unittest.TestCase):
    """The code that comes is that of what comes as it stands, which may not be simple."""

    def test_as_the_last_part_of_its_own_kind(self):
        for m, word in enumerate(("min", "max")):
            wanted = [1, 0, 1, 2, 1, 3, 10, m, 10, m]
            self.assertEqual(put_row(4, 2, f"{word}(a0, a1)", f"{word}(a2, a3)"), wanted)
            self.assertEqual(came(2, f"{word}(a0, a1)", f"{word}(a2, a3)"), f"{word}(a0, a2, a3)")
            self.assertEqual(came(3, f"{word}(a0, a1, a2)", f"{word}(a2, a3, 1)"), f"{word}(a0, a1, a2, a3, 1)")
            self.assertEqual(came(2, f"{word}(a0, a1)", f"{word}({word}(a2, a3), 1)"), f"{word}(a0, {word}(a2, a3), 1)")

    def test_as_another_part(self):
        for m, word in enumerate(("min", "max")):
            self.assertEqual(put_row(4, 1, f"{word}(a0, a1)", f"{word}(a2, a3)"), [1, 2, 1, 3, 10, m, 1, 1, 10, m])
            self.assertEqual(came(1, f"{word}(a0, a1)", f"{word}(a2, a3)"), f"{word}({word}(a2, a3), a1)")
            self.assertEqual(came(2, f"{word}(a0, a1, 1)", f"{word}(a2, a3)"), f"{word}(a0, {word}(a2, a3), 1)")
            self.assertEqual(came(0, f"{word}(a0, a1)", f"{word}(a2, a3)"), f"{word}(a2, a3)")

    def test_one_in_the_other(self):
        for m, word, another in ((0, "min", "max"), (1, "max", "min")):
            self.assertEqual(put_row(4, 2, f"{word}(a0, a1)", f"{another}(a2, a3)"), [1, 0, 1, 2, 1, 3, 10, 1 - m, 10, m])
            self.assertEqual(came(2, f"{word}(a0, a1)", f"{another}(a2, a3)"), f"{word}(a0, {another}(a2, a3))")
            self.assertEqual(came(1, f"{word}(a0, a1)", f"{another}(a2, a3)"), f"{word}({another}(a2, a3), a1)")

    def test_a_part_that_becomes_last_but_for_its_word(self):
        self.assertEqual(came(2, "min(a0, max(a1, a2))", "min(a2, a3)"), "min(a0, a2, a3)")
        self.assertEqual(came(4, "min(a0, max(a1, a2))", "min(a2, a3)"), "min(a0, max(a1, min(a2, a3)))")


class PartNumber(unittest.TestCase):
    def test_edges(self):
        for text, count in (("a0", 1), ("-a0", 2), ("a0 + a1", 3), ("if a0 then a1 else a2", 4), ("min(a0, min(a1, v0))", 4), ("min(min(a0, a1), v0)", 5)):
            for i in range(count):
                self.assertEqual(put(4, i, text, "1")[0], 0)
            for i in (-1, -2, -count, count, count + 1, 500, 10 ** 6, -10 ** 6, BIG, -BIG):
                self.assertEqual(put(4, i, text, "1"), [-12], (text, i))

    def test_the_largest_number_of_parts(self):
        numbers = row(1, "-" + balanced("a0", 125, "+"))
        self.assertEqual(len(numbers), 500)
        self.assertEqual(stackback.stackcode.put(1, 249, numbers, A), [0, 500] + numbers)
        self.assertEqual(stackback.stackcode.put(1, 250, numbers, A), [-12])
        self.assertEqual(stackback.stackcode.put(1, 249, numbers, [2, 0]), [0, 500] + numbers[:numbers_before_last(numbers)] + [2, 0]
                         + numbers[numbers_before_last(numbers) + 2:])

    def test_the_second_code_has_no_say(self):
        self.assertEqual(put(4, 2, "-a0", "min(a0, a1, a2)"), [-12])
        self.assertEqual(put(4, 1, "a0", "min(a0, a1, a2)"), [-12])


def numbers_before_last(numbers):
    """How many numbers stand before the last leaf."""
    instructions = cut_into_instructions(numbers)
    last = max(place for place, instruction in enumerate(instructions) if instruction[0] == 1)
    return sum(len(instruction) for instruction in instructions[:last])


def cut_into_instructions(numbers):
    lengths = (3, 2, 2, 2, 2, 2, 2, 2, 3, 1, 2)
    found = []
    while numbers:
        found.append(numbers[:lengths[numbers[0]]])
        numbers = numbers[lengths[numbers[0]]:]
    return found


class HeightThatComes(unittest.TestCase):
    def test_32_and_33(self):
        for below in range(1, 32):
            first = "-" * (32 - below) + "a0"
            for step, end in (("-", ""), ("g0(", ")"), ("floor(", ")")):
                right = step * (below - 1) + "a0" + end * (below - 1)
                wrong = step * below + "a0" + end * below
                answer = put(4, 32 - below, first, right)
                self.assertEqual(answer[0], 0)
                self.assertEqual(stackback.stackcode.measure(4, answer[2:])[2], 32)
                self.assertEqual(put(4, 32 - below, first, wrong), [-4])

    def test_each_place(self):
        high = "-" * 30 + "a0"
        for text, places in (("a0 + a1", 2), ("a0 and a1", 2), ("a0 or a1", 2), ("if a0 then a1 else a2", 3), ("min(a0, a1, a2)", 3), ("g1(a0, a1)", 2)):
            for i in range(1, places + 1):
                self.assertEqual(put(4, i, text, high)[0], 0)
                self.assertEqual(put(4, i, text, "-" + high), [-4])
                self.assertEqual(put(4, i + 1, f"-({text})", high), [-4])

    def test_the_whole_and_lower_parts_stay_free(self):
        high = "-" * 31 + "a0"
        self.assertEqual(put_row(4, 0, high, high), row(4, high))
        self.assertEqual(put_row(4, 31, high, "1"), row(4, "-" * 31 + "1"))
        self.assertEqual(put(4, 31, high, "-1"), [-4])
        self.assertEqual(put_row(4, 30, high, "-1"), row(4, "-" * 31 + "1"))
        # What is taken out counts no more.
        self.assertEqual(put_row(4, 1, f"{'-' * 30 + 'a0'} + a1", "a2"), row(4, "a2 + a1"))

    def test_a_min_as_the_last_part_of_a_min(self):
        """What comes as it stands counts, though its code is also that of a lower expression."""
        for word, another in (("min", "max"), ("max", "min")):
            first = "-" * 30 + f"{word}(a0, a1)"
            self.assertEqual(stackback.stackcode.measure(4, row(4, "-" * 30 + f"{word}(a0, a2, a3)"))[2], 32)
            self.assertEqual(put(4, 32, first, f"{word}(a2, a3)"), [-4])
            self.assertEqual(put(4, 31, first, f"{word}(a2, a3)"), [-4])
            self.assertEqual(put(4, 32, first, f"{another}(a2, a3)"), [-4])
            self.assertEqual(put_row(4, 30, first, f"{word}(a2, a3)"), row(4, "-" * 30 + f"{word}(a2, a3)"))
            first = "-" * 29 + f"{word}(a0, a1)"
            self.assertEqual(put_row(4, 31, first, f"{word}(a2, a3)"), row(4, "-" * 29 + f"{word}(a0, a2, a3)"))

    def test_a_high_min_below_a_min(self):
        high = "-" * 30 + "a2"
        for word in ("min", "max"):
            self.assertEqual(put(4, 2, f"{word}(a0, a1)", f"{word}({high}, a3)"), [-4])
            self.assertEqual(put_row(4, 2, f"{word}(a0, a1)", f"{word}({high[1:]}, a3)"), row(4, f"{word}(a0, {high[1:]}, a3)"))


class NestingThatComes(unittest.TestCase):
    # -(not ..) is 3 around one another, and height 2: 30 around a0, and height 21.
    DEEP = "-(not " * 10 + "a0" + ")" * 10

    def test_32_and_33(self):
        self.assertEqual(put_row(4, 20, self.DEEP, "--a0"), row(4, "-(not " * 10 + "--a0" + ")" * 10))
        self.assertEqual(put(4, 20, self.DEEP, "---a0"), [-4])
        self.assertEqual(put_row(4, 20, self.DEEP, "g0(g0(a0))"), row(4, "-(not " * 10 + "g0(g0(a0))" + ")" * 10))
        self.assertEqual(put(4, 20, self.DEEP, "g0(g0(g0(a0)))"), [-4])
        self.assertEqual(put_row(4, 2, "--a0", self.DEEP), row(4, "--" + self.DEEP))
        self.assertEqual(put(4, 3, "---a0", self.DEEP), [-4])

    def test_brackets_that_are_wanted_count(self):
        # 31 around one another: one more has room, be it a sign of the part's own or the brackets that it wants.
        first = "-" + self.DEEP
        self.assertEqual(put(4, 21, first, "-a0")[0], 0)
        self.assertEqual(put(4, 21, first, "a0 ^ 2")[0], 0)
        self.assertEqual(put(4, 21, first, "a0 + 1")[0], 0)
        self.assertEqual(put(4, 21, first, "a0 ^ (a0 + 1)"), [-4])
        self.assertEqual(put(4, 21, first, "a0 or 1")[0], 0)
        self.assertEqual(put(4, 21, first, "-(a0 or 1)"), [-4])
        # A - wants brackets left of ^ and none beside + or -; right of ^ the ^ itself stands around it.
        self.assertEqual(put(4, 1, "a0 ^ 2", "--" + self.DEEP), [-4])
        self.assertEqual(put(4, 1, "a0 ^ 2", "-" + self.DEEP)[0], 0)
        self.assertEqual(put(4, 1, "a0 + 2", "--" + self.DEEP)[0], 0)
        self.assertEqual(put(4, 2, "a0 - 2", "--" + self.DEEP)[0], 0)
        self.assertEqual(put(4, 2, "a0 ^ 2", "--" + self.DEEP), [-4])
        self.assertEqual(put(4, 2, "a0 ^ 2", "-" + self.DEEP)[0], 0)

    def test_a_min_as_the_last_part_of_a_min(self):
        """What comes as it stands counts, though its code is also that of an expression with fewer around one another."""
        for word in ("min", "max"):
            first = "-(not " * 10 + f"-{word}(a0, a1)" + ")" * 10
            self.assertEqual(tree(4, row(4, first.replace("a1", "a2, a3"))), first.replace("a1", "a2, a3"))
            self.assertEqual(put(4, 23, first, f"{word}(a2, a3)"), [-4])
            self.assertEqual(put(4, 22, first, f"{word}(a2, a3)"), [-4])
            self.assertEqual(put_row(4, 21, first, f"{word}(a2, a3)"), row(4, first.replace("a0, a1", "a2, a3")))
            lower = first.replace("-min", "min").replace("-max", "max")
            self.assertEqual(put_row(4, 22, lower, f"{word}(a2, a3)"), row(4, lower.replace("a1", "a2, a3")))

    def test_what_is_taken_out_counts_no_more(self):
        self.assertEqual(put_row(4, 1, f"--{self.DEEP} + a1", "a2"), row(4, "a2 + a1"))


class LengthThatComes(unittest.TestCase):
    def test_500_and_501(self):
        # 124 parts of 2 numbers and 123 joinings of 2.
        wide = "min(" + ", ".join(["a0"] * 124) + ")"
        self.assertEqual(len(row(4, wide)), 494)
        for i in (1, 2, 60, 124):
            self.assertEqual(len(put_row(4, i, wide, "---a0")), 500)
            self.assertEqual(len(put_row(4, i, wide, "--1")), 499)
            self.assertEqual(put(4, i, wide, "---1"), [-2])
            self.assertEqual(put(4, i, wide, "----a0"), [-2])
        self.assertEqual(put_row(4, 124, wide, "---a0"), row(4, wide)[:246] + [1, 0] + [3, 0] * 3 + [10, 0] * 123)

    def test_two_long_codes(self):
        half = "min(" + ", ".join(["a0"] * 63) + ")"
        numbers = row(4, half)
        self.assertEqual(len(numbers), 250)
        self.assertEqual(len(put_row(4, 1, half, half)), 498)
        self.assertEqual(put_row(4, 0, half, half), numbers)
        self.assertEqual(len(put_row(4, 1, "-" + half, half)), 252)
        self.assertEqual(len(put_row(4, 2, "-" + half, half)), 500)
        self.assertEqual(put(4, 3, "-" + half, half.replace("a0", "1", 1)), [-2])
        self.assertEqual(put(4, 1, half, "--" + half), [-2])

    def test_500_that_come_and_are_taken_again(self):
        wide = "min(" + ", ".join(["a0"] * 124) + ")"
        came = put_row(4, 1, wide, "---a0")
        self.assertEqual(stackback.stackcode.parts(4, came)[:6], [0, 128, 7, 0, 250, 5])

    def test_the_whole_of_500(self):
        whole = "-min(" + ", ".join(["a0"] * 125) + ")"
        self.assertEqual(put_row(4, 0, "1", whole), row(4, whole))
        self.assertEqual(put_row(4, 0, whole, "1"), [0, 1, 1])
        self.assertEqual(put_row(4, 2, whole, "a1"), row(4, whole.replace("a0", "a1", 1)))
        self.assertEqual(put(4, 2, whole, "1"), [-2])
        self.assertEqual(put(4, 1, "-a0", whole), [-2])


TOO_LONG = [0, 1, 1] + A * 124 + [10, 0] * 124 + [3, 0]
NO_CODE = A + [9]
TOO_HIGH = A + [3, 0] * 32
WRONG = {-2: TOO_LONG, -3: NO_CODE, -4: TOO_HIGH}


class Order(unittest.TestCase):
    """-1, the first code's, the second code's, -12, -4, -2."""

    def refused(self, n, i, numbers, other, answer):
        self.assertEqual(stackback.stackcode.put(n, i, numbers, other), [answer])

    def test_parameters_go_first_of_all(self):
        for n in (-1, 9, BIG, -BIG):
            for i in (-1, 0, 1, BIG):
                for numbers in [A, []] + list(WRONG.values()):
                    for other in [A, []] + list(WRONG.values()):
                        self.refused(n, i, numbers, other, -1)

    def test_the_first_code_goes_before_the_second_and_the_number(self):
        self.assertEqual(len(TOO_LONG), 501)
        for number, numbers in WRONG.items():
            for other in [A, []] + list(WRONG.values()):
                for i in (-1, 0, 1, 300, BIG):
                    self.refused(1, i, numbers, other, number)

    def test_the_second_code_goes_before_the_number(self):
        for number, other in WRONG.items():
            for numbers in (A, A + [3, 0], A + [3, 0] * 31):
                for i in (-1, 0, 1, 300, BIG):
                    self.refused(1, i, numbers, other, number)

    def test_within_one_code(self):
        for numbers, number in (([77] * 501, -2), (A + [3, 0] * 250, -2), ([77] * 500, -3), (TOO_HIGH + [9], -3), (A + [3, 0] * 249, -4)):
            self.refused(1, 0, numbers, A, number)
            self.refused(1, 0, A, numbers, number)

    def test_the_part_number_goes_before_what_comes(self):
        high = A + [3, 0] * 31
        # Too high, and too long as well, whatever part it were put for but the whole.
        wide = row(1, "g0(" * 29 + "min(" + ", ".join(["a0"] * 102) + ")" + ")" * 29)
        self.assertEqual(len(wide), 493)
        for other in (high, wide):
            for numbers in (high, wide):
                self.refused(1, -1, numbers, other, -12)
                self.refused(1, 500, numbers, other, -12)
        self.refused(1, 31, high, high, -4)
        self.refused(1, 40, wide, wide, -4)

    def test_height_goes_before_length(self):
        wide = "min(" + ", ".join(["a0"] * 120) + ")"
        self.assertEqual(len(row(1, wide)), 478)
        self.refused(1, 1, row(1, wide), row(1, "-" * 31 + "a0"), -4)
        self.refused(1, 1, row(1, wide), row(1, "-" * 30 + "a0"), -2)
        self.refused(1, 1, row(1, wide), row(1, "-" * 12 + "a0"), -2)
        self.assertEqual(stackback.stackcode.put(1, 1, row(1, wide), row(1, "-" * 11 + "a0"))[:2], [0, 500])

    def test_nesting_goes_before_length(self):
        wide = "min(" + ", ".join(["a0"] * 118) + ")"
        deep = "-(not " * 10 + "a0" + ")" * 10
        self.refused(1, 1, row(1, wide), row(1, "--" + deep), -4)
        self.refused(1, 1, row(1, wide), row(1, "-" + deep), -2)

    def test_names_are_those_of_the_same_parameters(self):
        self.refused(1, 0, [1, 1], A, -3)
        self.refused(1, 0, A, [1, 1], -3)
        self.assertEqual(stackback.stackcode.put(2, 0, A, [1, 1]), [0, 2, 1, 1])


class LeftAlone(unittest.TestCase):
    TEXTS = ("a0", "if a0 then min(a1, 2) else a0 or a1", "min(a0, min(a1, 2))", "g0(1, a0)", "-a0", "a0 and 1", "t0(a0 + a1)")

    def test_lists_are_as_they_were(self):
        rows = [row(2, text) for text in self.TEXTS] + [[], TOO_LONG, NO_CODE, TOO_HIGH]
        for numbers in rows:
            for other in rows:
                for i in (-1, 0, 1, 2):
                    for n in (2, 9):
                        first, second = list(numbers), list(other)
                        answer = stackback.stackcode.put(n, i, Watched(first), Watched(second))
                        self.assertEqual(stackback.stackcode.put(n, i, first, second), answer)
                        self.assertEqual((first, second), (numbers, other))

    def test_one_and_the_same_list(self):
        numbers = row(2, "min(a0, min(a1, 2))")
        kept = list(numbers)
        for i, printed in enumerate(("min(a0, a1, 2)", "min(min(a0, a1, 2), a1, 2)", "min(a0, min(a0, a1, 2), 2)", "min(a0, a1, a0, a1, 2)")):
            for given in (numbers, Watched(numbers)):
                answer = stackback.stackcode.put(2, i, given, given)
                self.assertEqual(tree(2, answer[2:]), printed)
                self.assertEqual(given, kept)
        self.assertEqual(stackback.stackcode.put(2, 4, numbers, numbers), [-12])
        self.assertEqual(numbers, kept)
        for text in self.TEXTS:
            numbers = row(2, text)
            for i in range(len(parted(2, numbers))):
                self.assertEqual(stackback.stackcode.put(2, i, numbers, numbers), stackback.stackcode.put(2, i, list(numbers), list(numbers)))
            self.assertEqual(numbers, row(2, text))

    def test_what_is_answered_is_no_list_that_was_handed_in(self):
        numbers, other = row(2, "a0"), row(2, "a1")
        answer = stackback.stackcode.put(2, 0, numbers, other)
        answer.clear()
        self.assertEqual((numbers, other), (row(2, "a0"), row(2, "a1")))

    def test_answers_are_lists_of_whole_numbers(self):
        for i in (-1, 0, 1, 2, 3):
            answer = stackback.stackcode.put(2, i, row(2, "a0 < 1"), row(2, "not 1:2"))
            self.assertIs(type(answer), list)
            self.assertEqual({type(number) for number in answer}, {int})


if __name__ == "__main__":
    unittest.main()
