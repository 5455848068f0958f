"""The grammar: what joins with what, wrong texts, nesting and height."""

import unittest

from helper import back, code, row


class Joining(unittest.TestCase):
    def same(self, text, other):
        """Both texts must be taken, with one code."""
        self.assertEqual(row(4, text), row(4, other), f"{text!r} and {other!r}")

    def differ(self, text, other):
        self.assertNotEqual(row(4, text), row(4, other), f"{text!r} and {other!r}")

    def test_from_the_left(self):
        for sign in ("or", "and", "+", "-", "*", "/", "//", "%"):
            self.same(f"a0 {sign} a1 {sign} a2", f"(a0 {sign} a1) {sign} a2")
            self.differ(f"a0 {sign} a1 {sign} a2", f"a0 {sign} (a1 {sign} a2)")
        self.same("a0 - a1 + a2 - a3", "((a0 - a1) + a2) - a3")
        self.same("a0 / a1 * a2 // a3 % 2", "(((a0 / a1) * a2) // a3) % 2")

    def test_power_goes_on_to_the_right(self):
        self.same("a0 ^ a1 ^ a2", "a0 ^ (a1 ^ a2)")
        self.same("-a0 ^ a1", "-(a0 ^ a1)")
        self.same("a0 ^ -a1 ^ a2", "a0 ^ (-(a1 ^ a2))")
        self.same("a0 ^ --a1", "a0 ^ (-(-a1))")
        self.same("a0 ^ a1 * a2", "(a0 ^ a1) * a2")
        self.same("a0 * a1 ^ a2", "a0 * (a1 ^ a2)")

    def test_stronger_kinds_first(self):
        self.same("a0 or a1 and a2", "a0 or (a1 and a2)")
        self.same("a0 and a1 or a2", "(a0 and a1) or a2")
        self.same("not a0 and a1", "(not a0) and a1")
        self.same("a0 and not a1 or a2", "(a0 and (not a1)) or a2")
        self.same("not a0 = a1", "not (a0 = a1)")
        self.same("not not a0 < a1", "not (not (a0 < a1))")
        self.same("a0 < a1 and a2 >= a3", "(a0 < a1) and (a2 >= a3)")
        self.same("a0 + a1 = a2 - a3", "(a0 + a1) = (a2 - a3)")
        self.same("a0 + a1 * a2", "a0 + (a1 * a2)")
        self.same("a0 * a1 + a2", "(a0 * a1) + a2")
        self.same("-a0 * a1", "(-a0) * a1")
        self.same("-a0 + a1", "(-a0) + a1")
        self.same("a0 * -a1 * a2", "(a0 * (-a1)) * a2")
        self.same("a0 - -a1 - a2", "(a0 - (-a1)) - a2")

    def test_if_takes_all_that_follows(self):
        self.same("if a0 then a1 else a2 or a3", "if a0 then a1 else (a2 or a3)")
        self.same("if a0 then a1 else a2 + a3", "if a0 then a1 else (a2 + a3)")
        self.same("if if a0 then a1 else a2 then a3 else 5", "if (if a0 then a1 else a2) then a3 else 5")
        self.same("if a0 then if a1 then a2 else a3 else 5", "if a0 then (if a1 then a2 else a3) else 5")
        self.same("if a0 then 1 else if a1 then 2 else 3", "if a0 then 1 else (if a1 then 2 else 3)")
        self.same("if(a0)then(a1)else(a2)", "if a0 then a1 else a2")
        self.same("min(if a0 then a1 else a2, a3)", "min((if a0 then a1 else a2), (a3))")

    def test_brackets_make_no_difference_else(self):
        self.same("((((a0))))", "a0")
        self.same("(a0) + ((1))", "a0 + 1")
        self.same("(a0 = a1) = (a2 = a3)", "((a0) = (a1)) = ((a2) = (a3))")


class WrongTexts(unittest.TestCase):
    def refused(self, texts):
        for text in texts:
            self.assertEqual(code(4, text), [-6], text)

    def test_empty(self):
        self.refused(["", " ", "\t\n\r  ", "()", "( )"])

    def test_ends_early(self):
        whole = "if not a0 < -2 ^ 3 then min(a1, g1(2, t0(3))) + floor(a2 % 2) else (a3 or 1 and 5:2)"
        self.assertEqual(code(4, whole)[0], 0)
        tokens = whole.replace("(", " ( ").replace(")", " ) ").replace(",", " , ").replace("-2", "- 2").split()
        for count in range(len(tokens)):
            self.assertEqual(code(4, " ".join(tokens[:count])), [-6], tokens[:count])
        self.assertEqual(code(4, " ".join(tokens))[0], 0)

    def test_goes_on_behind_the_expression(self):
        for behind in ("1", "a1", ")", "(", "(1)", ",", ", 1", "then 1", "else 1", "not", "if", "floor(1)", "and", "+", "^"):
            self.refused([f"1 {behind}", f"(a0) {behind}", f"if 1 then 2 else 3 {behind}", f"min(1) {behind}"])
        self.assertEqual(code(4, "a0 (1)"), [-8])
        self.refused(["a0 (1) (2)", "a0 a1", "g0(1) 2"])

    def test_no_chain_of_comparisons(self):
        for sign in ("=", "<>", "<", "<=", ">", ">="):
            self.refused([f"a0 {sign} a1 {sign} a2", f"a0 {sign} a1 = a2", f"not a0 < a1 {sign} a2"])
            self.assertEqual(code(4, f"(a0 {sign} a1) {sign} a2")[0], 0)

    def test_weak_kinds_where_stronger_ones_are_wanted(self):
        weak_if = "if a0 then a1 else a2"
        for before in ("a0 or", "a0 and", "not", "a0 =", "a0 +", "a0 *", "-", "a0 ^"):
            self.refused([f"{before} {weak_if}"])
            self.assertEqual(code(4, f"{before} ({weak_if})")[0], 0, before)
        for before in ("a0 =", "a0 <=", "a0 +", "a0 -", "a0 *", "a0 //", "-", "a0 ^"):
            self.refused([f"{before} not a1", f"{before} not (a1)"])
            self.assertEqual(code(4, f"{before} (not a1)")[0], 0, before)

    def test_signs_with_a_part_missing(self):
        for sign in "or and + * / // % ^ = <> < <= > >=".split():
            self.refused([f"a0 {sign}", f"{sign} a0", f"a0 {sign} {sign} a1", f"({sign})", f"(a0 {sign}) + 1"])
        self.refused(["a0 -", "-", "- -", "not", "not not", "+a0", "a0 + * a1"])

    def test_brackets(self):
        self.refused(["(", ")", "(a0", "a0)", "((a0)", "(a0))", ")a0(", "(a0, a1)", "(,)", "(a0,)", ","])
        self.refused(["g0()", "t0()", "min()", "max()", "floor()", "g0(,)", "g0(1,)", "g0(,1)", "g0(1,,2)", "g0(1", "g0(1,"])
        self.refused(["min", "max 1", "floor", "floor a0", "abs -1", "min(1", "max(1,", "min(1,)", "min 1, 2", "1, 2"])
        for word in ("floor", "ceil", "abs", "sign", "num", "den"):
            self.refused([f"{word}(1, 2)", f"{word}()", f"{word}(1", f"{word} 1", f"{word}", f"{word}(,1)"])
        self.refused(["1(2)", "(a0)(1)", "floor(1)(2)"])

    def test_if(self):
        self.refused(["if", "if a0", "if a0 then", "if a0 then a1", "if a0 then a1 else", "if a0 else a1", "then", "else"])
        self.refused(["if then a0 else a1", "if a0 then else a1", "if a0 else a1 then a2", "a0 then a1 else a2", "a0 else a1"])
        self.refused(["if a0 then a1 else a2 else a3", "if a0 then a1 then a2 else a3", "if a0 then if a1 then a2 else a3"])
        self.refused(["(if a0) then a1 else a2", "(if a0 then a1) else a2", "if (a0 then a1 else a2)", "if a0, a1 then 1 else 2"])
        self.refused(["min(if a0, a1)", "min(if a0 then 1, 2)", "min(if a0 then 1) else 2", "(if a0 then 1)"])

    def test_words_out_of_place(self):
        self.refused(["and", "a0 and and a1", "a0 not a1", "a0 if a1", "not and a0", "or(1, 2)", "and(1)", "then(1)"])


def nested(count):
    """Texts in which count stand around one another, by what these are."""
    return {
        "if condition": "if " * count + "a0" + " then 1 else 2" * count,
        "if then": "if 1 then " * count + "a0" + " else 2" * count,
        "if else": "if 1 then 2 else " * count + "a0",
        "not": "not " * count + "a0",
        "minus": "-" * count + "a0",
        "minus apart": "- " * count + "a0",
        "power": "a0" + " ^ a0" * count,
        "brackets": "(" * count + "a0" + ")" * count,
        "floor": "floor(" * count + "a0" + ")" * count,
        "min": "min(" * count + "a0" + ")" * count,
        "max": "max(1, " * count + "a0" + ", 2)" * count,
        "formula": "g1(" * count + "a0" + ")" * count,
        "formula first": "g1(" * count + "a0" + ", 1)" * count,
        "table": "t1(" * count + "a0" + ")" * count,
        "power of minus": "2 ^ " * (count // 2) + "-" * (count - count // 2) + "a0",
        "power in brackets": "(" * (count - 1) + "a0" + " ^ 1)" * (count - 1),
        "not in brackets": "not (" * (count // 2) + "not " * (count % 2) + "a0" + ")" * (count // 2),
        "minus in brackets": "-(" * (count // 2) + "-" * (count % 2) + "a0" + ")" * (count // 2),
        "if in brackets": "(if 1 then " * (count // 2) + "not " * (count % 2) + "a0" + " else 2)" * (count // 2),
    }


# Brackets count for nesting but not for height; of these 32 around one another are higher than 32.
TOO_HIGH_TOO = ("if condition", "if then", "if else", "not", "minus", "minus apart", "power", "floor", "min", "max",
                "formula", "formula first", "table", "power of minus")


class Nesting(unittest.TestCase):
    def test_31_and_32_and_33(self):
        for what, text in nested(31).items():
            self.assertEqual(code(1, text)[0], 0, what)
        for what, text in nested(32).items():
            self.assertEqual(code(1, text)[0], -7 if what in TOO_HIGH_TOO else 0, what)
        for what, text in nested(33).items():
            self.assertEqual(code(1, text), [-6], what)

    def test_far_too_many(self):
        for count in (34, 100, 400):
            for what, text in nested(count).items():
                self.assertEqual(code(1, text), [-5] if len(text) > 2000 else [-6], what)
        for text in ("(" * 2000, "-" * 2000, "not " * 500, "if " * 600, "a0^" * 600 + "a0", "-" * 1998 + "a0"):
            self.assertEqual(code(1, text), [-6])

    def test_what_stands_side_by_side_is_not_around_one_another(self):
        for part in ("(" * 31 + "a0" + ")" * 31, "-(" * 15 + "a0" + ")" * 15):
            self.assertEqual(code(1, f"{part} + {part} * {part} - g0({part}, {part})")[0], 0)
        self.assertEqual(code(1, " + ".join(["(-a0)"] * 20))[0], 0)
        self.assertEqual(code(1, "(" * 32 + "a0" + ")" * 32 + " ^ " + "(" * 31 + "a0" + ")" * 31)[0], 0)
        self.assertEqual(code(1, "a0 ^ " + "(" * 31 + "a0" + ")" * 31)[0], 0)
        self.assertEqual(code(1, "a0 ^ " + "(" * 32 + "a0" + ")" * 32), [-6])
        self.assertEqual(code(1, "-a0 * " + "(" * 32 + "a0" + ")" * 32)[0], 0)
        self.assertEqual(code(1, "-a0 ^ " + "(" * 31 + "a0" + ")" * 31), [-6])
        self.assertEqual(code(1, "not a0 and " + "(" * 32 + "a0" + ")" * 32)[0], 0)
        self.assertEqual(code(1, "a0 ^ 2 + " + "(" * 32 + "a0" + ")" * 32)[0], 0)

    def test_if_stands_around_all_three_parts(self):
        deep = "(" * 32 + "a0" + ")" * 32
        for text in (f"if {deep} then 1 else 2", f"if 1 then {deep} else 2", f"if 1 then 2 else {deep}"):
            self.assertEqual(code(1, text), [-6], text)
        deep = deep[1:-1]
        self.assertEqual(code(1, f"if {deep} then {deep} else {deep}")[0], 0)


def high(count):
    """Texts of height count that nest little."""
    return {
        "sum": " + ".join(["a0"] * count),
        "product": " * ".join(["a0"] * count),
        "or": " or ".join(["a0"] * count),
        "and": " and ".join(["a0"] * count),
        "sum in a comparison": "1 < " + " - ".join(["a0"] * (count - 1)),
        "sum in brackets": "((" + " + ".join(["a0"] * count) + "))",
        "sum below minus": "-(" + " // ".join(["a0"] * (count - 1)) + ")",
        "last of three": "max(1, 2, " + " % ".join(["a0"] * (count - 1)) + ")",
        "middle of three": "g0(1, " + " % ".join(["a0"] * (count - 1)) + ", 2)",
        "second of if": "if 1 then " + " / ".join(["a0"] * (count - 1)) + " else 2",
        "min of one": "min(" + " + ".join(["a0"] * (count - 1)) + ")",
        "min of min": "min(1, min(2, " + " + ".join(["a0"] * (count - 2)) + "))",
    }


class Height(unittest.TestCase):
    def test_32_and_33(self):
        for what, text in high(32).items():
            self.assertEqual(code(1, text)[0], 0, what)
        for what, text in high(33).items():
            self.assertEqual(code(1, text), [-7], what)

    def test_far_too_high(self):
        for what, text in high(250).items():
            self.assertEqual(code(1, text), [-7], what)
        self.assertEqual(code(1, "+".join(["1"] * 1000)), [-7])

    def test_wide_is_not_high(self):
        self.assertEqual(code(1, "min(" + ", ".join(["a0"] * 125) + ")")[0], 0)

    def test_printed_again(self):
        self.assertEqual(back(1, high(32)["sum"]), high(32)["sum"])
        self.assertEqual(back(1, high(32)["min of one"]), " + ".join(["a0"] * 31))


if __name__ == "__main__":
    unittest.main()
