"""What measure tells: instructions, height, parts in all, different names, need."""

import unittest

import stackback.stackcode
from helper import measured, row

# Needs of 1, 2, 3 and 4, each of them on the left, on the right or in any other place of larger expressions.
NEED = {1: "a0", 2: "(a0 + a0)", 3: "(a0 + (a0 + a0))", 4: "(a0 + (a0 + (a0 + a0)))"}


def need(text):
    return measured(2, text)[4]


class EachForm(unittest.TestCase):
    def test_alone(self):
        for text, wanted in (
            ("0", [1, 1, 1, 0, 1]), ("7", [1, 1, 1, 0, 1]), ("1:2", [1, 1, 1, 0, 1]), ("a0", [1, 1, 1, 1, 1]), ("clock", [1, 1, 1, 1, 1]),
            ("f3.free", [1, 1, 1, 1, 1]), ("g0", [1, 1, 1, 1, 1]), ("-a0", [2, 2, 2, 1, 1]), ("not a0", [2, 2, 2, 1, 1]),
            ("floor(a0)", [2, 2, 2, 1, 1]), ("den(1)", [2, 2, 2, 0, 1]), ("-5", [2, 2, 2, 0, 1]), ("a0 + a1", [3, 2, 3, 2, 2]),
            ("a0 = 1", [3, 2, 3, 1, 2]), ("2 ^ 3", [3, 2, 3, 0, 2]), ("a0 and a1", [6, 2, 3, 2, 1]), ("a0 or a1", [6, 2, 3, 2, 1]),
            ("if a0 then a1 else v0", [5, 2, 4, 3, 1]), ("min(a0, a1)", [3, 2, 3, 2, 2]), ("max(a0, a1, v0)", [5, 2, 4, 3, 3]),
            ("t0(a0)", [2, 2, 2, 2, 1]), ("g0(a0)", [2, 2, 2, 2, 1]), ("g0(1)", [2, 2, 2, 1, 1]), ("g0(a0, a1)", [3, 2, 3, 3, 2]),
            ("g0(1, 2, 3, 4, 5, 6, 7, 8)", [9, 2, 9, 1, 8]), ("min(1, 2, 3, 4, 5, 6)", [11, 2, 7, 0, 6]),
        ):
            with self.subTest(text):
                self.assertEqual(measured(2, text), wanted)

    def test_every_sign_and_word(self):
        for sign in ("+", "-", "*", "/", "//", "%", "^", "=", "<>", "<", "<=", ">", ">="):
            self.assertEqual(measured(2, f"a0 {sign} 1"), [3, 2, 3, 1, 2])
            self.assertEqual(measured(2, f"(a0 + a1) {sign} 1"), [5, 3, 5, 2, 2])
            self.assertEqual(measured(2, f"1 {sign} (a0 + a1)"), [5, 3, 5, 2, 3])
        for text in ("-(a0 + a1)", "not (a0 + a1)", "floor(a0 + a1)", "ceil(a0 + a1)", "abs(a0 + a1)", "sign(a0 + a1)", "num(a0 + a1)",
                     "den(a0 + a1)"):
            self.assertEqual(measured(2, text), [4, 3, 4, 2, 2])

    def test_in_one_another(self):
        for text, wanted in (
            ("if a0 and 1 then min(a0, g1(a1, 2)) else -(a0 or t3(a1))", [21, 5, 14, 4, 3]),
            ("a0 and a1 and v0", [11, 3, 5, 3, 1]), ("a0 and (a1 and v0)", [11, 3, 5, 3, 1]), ("a0 or a1 or v0", [11, 3, 5, 3, 1]),
            ("(a0 or a1) and not v0", [12, 3, 6, 3, 1]), ("if a0 then 1 else if a1 then 2 else 3", [9, 3, 7, 2, 1]),
            ("(if a0 then 1 else 2) + (if a1 then 1 else 2)", [11, 3, 9, 2, 2]), ("min(a0 + 1, max(a1, v0) - 1)", [9, 4, 9, 3, 3]),
            ("t0(t1(t2(a0)))", [4, 4, 4, 4, 1]), ("--a0", [3, 3, 3, 1, 1]), ("a0 + a1 + v0 + 1", [7, 4, 7, 3, 2]),
            ("g0(a0 and 1, a1)", [8, 3, 5, 3, 2]),
        ):
            with self.subTest(text):
                self.assertEqual(measured(2, text), wanted)

    def test_nothing_is_folded(self):
        self.assertEqual(measured(0, "1 + 2"), [3, 2, 3, 0, 2])
        self.assertEqual(measured(1, "if 1 then a0 else 2"), [5, 2, 4, 1, 1])
        self.assertEqual(measured(1, "a0 + 0"), [3, 2, 3, 1, 2])


class SimpleExpression(unittest.TestCase):
    def test_min_within_min(self):
        numbers = row(2, "min(a0, min(a1, v0))")
        self.assertEqual(numbers, [1, 0, 1, 1, 2, 128, 10, 0, 10, 0])
        self.assertEqual(stackback.stackcode.measure(2, numbers), [0, 5, 2, 4, 3, 3])
        self.assertEqual(measured(2, "max(a0, max(a1, max(v0, 1)))"), [7, 2, 5, 3, 4])
        self.assertEqual(measured(2, "min(min(a0, a1), v0)"), [5, 3, 5, 3, 2])
        self.assertEqual(measured(2, "min(a0, max(a1, v0))"), [5, 3, 5, 3, 3])
        self.assertEqual(measured(2, "min(a0)"), [1, 1, 1, 1, 1])
        self.assertEqual(measured(2, "min(min(max(a0, min(a1))))"), [3, 2, 3, 2, 2])


class Names(unittest.TestCase):
    def names(self, text):
        return measured(2, text)[3]

    def test_more_than_once(self):
        for text, wanted in (
            ("a0 + a0", 1), ("a0 + a1 + a0", 2), ("g0 + g0", 1), ("g0(1) + g0(2)", 1), ("g0 + g0(1)", 1), ("g0(g0)", 1), ("g0(1) + g0(1, 2)", 1),
            ("t0(t0(1))", 1), ("t0(a0) + t0(a1)", 3), ("t1(1) + g1(1)", 2), ("g1 + t1(1) + a1 + v1 + p1 + k1", 6), ("g0(g1(g0(g1)))", 2),
            ("f1.free + f1.free", 1), ("f1.free + f1.holder + f1.open + f1.displaced", 4), ("f1.free + f2.free", 2), ("s1.open + f1.open", 2),
            ("if a0 then a0 else a0", 1), ("a0 and a0 or a0", 1), ("min(a0, a1, a0, a1)", 2), ("1 + 1 + 2", 0),
            ("floor(min(1, 2)) + max(3, abs(4))", 0), ("a0 + 0", 1), ("-a0 * -a0", 1), ("clock + living + me + age + family", 5),
        ):
            with self.subTest(text):
                self.assertEqual(self.names(text), wanted)

    def test_many(self):
        self.assertEqual(self.names("min(" + ", ".join(f"v{i}" for i in range(64)) + ", v0, v63)"), 64)


class Need(unittest.TestCase):
    def test_what_the_others_rest_on(self):
        for wanted, text in NEED.items():
            self.assertEqual(need(text), wanted)

    def test_two_joined_by_a_sign(self):
        for sign in ("+", "*", "^", "<"):
            for left in NEED:
                for right in NEED:
                    self.assertEqual(need(f"{NEED[left]} {sign} {NEED[right]}"), max(left, right + 1))

    def test_one_part(self):
        for wanted, text in NEED.items():
            for whole in (f"-{text}", f"not {text}", f"floor{text}" if wanted > 1 else "floor(a0)", f"t0({text})", f"g0({text})"):
                self.assertEqual(need(whole), wanted)

    def test_and_or_if(self):
        for left in NEED:
            for right in NEED:
                self.assertEqual(need(f"{NEED[left]} and {NEED[right]}"), max(left, right))
                self.assertEqual(need(f"{NEED[left]} or {NEED[right]}"), max(left, right))
                for last in NEED:
                    text = f"if {NEED[left]} then {NEED[right]} else {NEED[last]}"
                    self.assertEqual(need(text), max(left, right, last))

    def test_min_max_and_names_with_brackets(self):
        for first in NEED:
            for middle in NEED:
                for last in NEED:
                    inner = f"({NEED[first]}, {NEED[middle]}, {NEED[last]})"
                    for word in ("min", "max", "g5"):
                        self.assertEqual(need(word + inner), max(first, middle + 1, last + 2))

    def test_the_greatest_in_each_place(self):
        self.assertEqual(need(f"g0({NEED[4]}, 1)"), 4)
        self.assertEqual(need(f"g0({NEED[4]}, 1, 1, 1, 1)"), 5)
        self.assertEqual(need(f"g0(1, 1, {NEED[4]}, 1, 1)"), 6)
        self.assertEqual(need(f"g0(1, 1, 1, 1, {NEED[4]})"), 8)
        self.assertEqual(need(f"min(1, 1, {NEED[4]}, 1, 1)"), 6)
        self.assertEqual(need(f"max(1, 1, 1, 1, {NEED[4]})"), 8)
        self.assertEqual(need("min(" + ", ".join(["a0"] * 125) + ")"), 125)
        self.assertEqual(need("min(a0, g0(a0, a0 + min(a0, a1)))"), 5)


if __name__ == "__main__":
    unittest.main()
