"""What parts tells: of each part its form, where its code begins, how many instructions it has, and its height."""

import unittest

import reference
import stackback.stackcode
from helper import parted, row, tree

NUMBER, NAME, ONE, TWO, AND, OR, IF, PICK, CALL = range(9)


def told(text):
    return parted(4, row(4, text))


class Parts(unittest.TestCase):
    def wanted(self, *rows):
        for text, numbers in rows:
            with self.subTest(text):
                self.assertEqual(told(text), numbers)


class EachForm(Parts):
    def test_number_by_number(self):
        self.assertEqual(stackback.stackcode.parts(0, [0, 7, 1]), [0, 1, 0, 0, 1, 1])
        self.assertEqual(stackback.stackcode.parts(1, [1, 0, 3, 0]), [0, 2, 2, 0, 2, 2, 1, 0, 1, 1])

    def test_numbers_and_bare_names(self):
        for text in ("0", "7", "3:2", "1000000000000000000", "1:1000000000000000000"):
            self.wanted((text, [(NUMBER, 0, 1, 1)]))
        for text in ("a0", "a3", "clock", "p15", "f3.free", "k63", "g0", "g63"):
            self.wanted((text, [(NAME, 0, 1, 1)]))

    def test_one_part(self):
        for text in ("-a0", "not a0", "floor(a0)", "ceil(a0)", "abs(a0)", "sign(a0)", "num(a0)", "den(a0)"):
            self.wanted((text, [(ONE, 0, 2, 2), (NAME, 0, 1, 1)]))
        self.wanted(("-5", [(ONE, 0, 2, 2), (NUMBER, 0, 1, 1)]), ("--a0", [(ONE, 0, 3, 3), (ONE, 0, 2, 2), (NAME, 0, 1, 1)]))

    def test_two_parts(self):
        for sign in "+ - * / // % ^ = <> < <= > >=".split():
            self.wanted((f"a0 {sign} 1", [(TWO, 0, 3, 2), (NAME, 0, 1, 1), (NUMBER, 1, 1, 1)]))
            self.wanted((f"-a0 {sign} -a1" if sign != "^" else "(-a0) ^ -a1", [
                (TWO, 0, 5, 3), (ONE, 0, 2, 2), (NAME, 0, 1, 1), (ONE, 2, 2, 2), (NAME, 2, 1, 1)]))

    def test_and(self):
        self.wanted(
            ("a0 and 1", [(AND, 0, 6, 2), (NAME, 0, 1, 1), (NUMBER, 2, 1, 1)]),
            ("-a0 and a1", [(AND, 0, 7, 3), (ONE, 0, 2, 2), (NAME, 0, 1, 1), (NAME, 3, 1, 1)]),
            ("a0 and -a1", [(AND, 0, 7, 3), (NAME, 0, 1, 1), (ONE, 2, 2, 2), (NAME, 2, 1, 1)]),
            ("a0 and a1 and a2", [(AND, 0, 11, 3), (AND, 0, 6, 2), (NAME, 0, 1, 1), (NAME, 2, 1, 1), (NAME, 7, 1, 1)]),
            ("a0 and (a1 and a2)", [(AND, 0, 11, 3), (NAME, 0, 1, 1), (AND, 2, 6, 2), (NAME, 2, 1, 1), (NAME, 4, 1, 1)]),
        )

    def test_or(self):
        self.wanted(
            ("a0 or 1", [(OR, 0, 6, 2), (NAME, 0, 1, 1), (NUMBER, 4, 1, 1)]),
            ("-a0 or a1", [(OR, 0, 7, 3), (ONE, 0, 2, 2), (NAME, 0, 1, 1), (NAME, 5, 1, 1)]),
            ("a0 or -a1", [(OR, 0, 7, 3), (NAME, 0, 1, 1), (ONE, 4, 2, 2), (NAME, 4, 1, 1)]),
            ("a0 or a1 or a2", [(OR, 0, 11, 3), (OR, 0, 6, 2), (NAME, 0, 1, 1), (NAME, 4, 1, 1), (NAME, 9, 1, 1)]),
            ("a0 or (a1 or a2)", [(OR, 0, 11, 3), (NAME, 0, 1, 1), (OR, 4, 6, 2), (NAME, 4, 1, 1), (NAME, 8, 1, 1)]),
        )

    def test_if(self):
        self.wanted(
            ("if a0 then a1 else 1", [(IF, 0, 5, 2), (NAME, 0, 1, 1), (NAME, 2, 1, 1), (NUMBER, 4, 1, 1)]),
            ("if -a0 then a1 else a2", [(IF, 0, 6, 3), (ONE, 0, 2, 2), (NAME, 0, 1, 1), (NAME, 3, 1, 1), (NAME, 5, 1, 1)]),
            ("if a0 then -a1 else a2", [(IF, 0, 6, 3), (NAME, 0, 1, 1), (ONE, 2, 2, 2), (NAME, 2, 1, 1), (NAME, 5, 1, 1)]),
            ("if a0 then a1 else -a2", [(IF, 0, 6, 3), (NAME, 0, 1, 1), (NAME, 2, 1, 1), (ONE, 4, 2, 2), (NAME, 4, 1, 1)]),
        )

    def test_if_beside_and_and_or(self):
        """Codes that differ in little."""
        self.wanted(
            ("if a0 then 1 else a1", [(IF, 0, 5, 2), (NAME, 0, 1, 1), (NUMBER, 2, 1, 1), (NAME, 4, 1, 1)]),
            ("if a0 then a1 else 0", [(IF, 0, 5, 2), (NAME, 0, 1, 1), (NAME, 2, 1, 1), (NUMBER, 4, 1, 1)]),
        )

    def test_min_and_max(self):
        for word in ("min", "max"):
            self.wanted(
                (f"{word}(a0, 1)", [(PICK, 0, 3, 2), (NAME, 0, 1, 1), (NUMBER, 1, 1, 1)]),
                (f"{word}(a0, a1, a2)", [(PICK, 0, 5, 2), (NAME, 0, 1, 1), (NAME, 1, 1, 1), (NAME, 2, 1, 1)]),
                (f"{word}(-a0, a1, -a2, a3)", [
                    (PICK, 0, 9, 3), (ONE, 0, 2, 2), (NAME, 0, 1, 1), (NAME, 2, 1, 1), (ONE, 3, 2, 2), (NAME, 3, 1, 1), (NAME, 5, 1, 1)]),
            )
            for count in (2, 3, 5, 60, 125):
                text = f"{word}(" + ", ".join(["a0"] * count) + ")"
                self.wanted((text, [(PICK, 0, 2 * count - 1, 2)] + [(NAME, place, 1, 1) for place in range(count)]))

    def test_formulas_and_tables(self):
        self.wanted(
            ("g5", [(NAME, 0, 1, 1)]),
            ("g5(a0)", [(CALL, 0, 2, 2), (NAME, 0, 1, 1)]),
            ("g5(1, -a0, a1)", [(CALL, 0, 5, 3), (NUMBER, 0, 1, 1), (ONE, 1, 2, 2), (NAME, 1, 1, 1), (NAME, 3, 1, 1)]),
            ("g5(" + ", ".join("12345678") + ")", [(CALL, 0, 9, 2)] + [(NUMBER, place, 1, 1) for place in range(8)]),
            ("t5(a0)", [(CALL, 0, 2, 2), (NAME, 0, 1, 1)]),
            ("t5(t6(a0 + 1))", [(CALL, 0, 5, 4), (CALL, 0, 4, 3), (TWO, 0, 3, 2), (NAME, 0, 1, 1), (NUMBER, 1, 1, 1)]),
            ("g5(g6, g7(g8))", [(CALL, 0, 4, 3), (NAME, 0, 1, 1), (CALL, 1, 2, 2), (NAME, 1, 1, 1)]),
        )


class Simple(Parts):
    def test_of_which_parts_are_told(self):
        flat = [(PICK, 0, 5, 2), (NAME, 0, 1, 1), (NAME, 1, 1, 1), (NAME, 2, 1, 1)]
        self.assertEqual(row(4, "min(a0, min(a1, v0))"), [1, 0, 1, 1, 2, 128, 10, 0, 10, 0])
        self.wanted(
            ("min(a0, min(a1, v0))", flat), ("max(a0, max(a1, v0))", flat), ("min(a0)", [(NAME, 0, 1, 1)]), ("min(max(a0, a1, v0))", flat),
            ("min(min(a0, a1), v0)", [(PICK, 0, 5, 3), (PICK, 0, 3, 2), (NAME, 0, 1, 1), (NAME, 1, 1, 1), (NAME, 3, 1, 1)]),
            ("min(a0, min(a1, v0), v1)", [
                (PICK, 0, 7, 3), (NAME, 0, 1, 1), (PICK, 1, 3, 2), (NAME, 1, 1, 1), (NAME, 2, 1, 1), (NAME, 4, 1, 1)]),
            ("min(a0, max(a1, v0))", [(PICK, 0, 5, 3), (NAME, 0, 1, 1), (PICK, 1, 3, 2), (NAME, 1, 1, 1), (NAME, 2, 1, 1)]),
            ("min(a0, a1, max(a2, max(a3, 1)))", [
                (PICK, 0, 9, 3), (NAME, 0, 1, 1), (NAME, 1, 1, 1), (PICK, 2, 5, 2), (NAME, 2, 1, 1), (NAME, 3, 1, 1), (NUMBER, 4, 1, 1)]),
        )


class InOneAnother(Parts):
    def test_by_hand(self):
        self.wanted(
            ("if a0 and 1 then min(a0, g1(a1, 2)) else -(a0 or t3(a1))", [
                (IF, 0, 21, 5),
                (AND, 0, 6, 2), (NAME, 0, 1, 1), (NUMBER, 2, 1, 1),
                (PICK, 7, 5, 3), (NAME, 7, 1, 1), (CALL, 8, 3, 2), (NAME, 8, 1, 1), (NUMBER, 9, 1, 1),
                (ONE, 13, 8, 4), (OR, 13, 7, 3), (NAME, 13, 1, 1), (CALL, 17, 2, 2), (NAME, 17, 1, 1)]),
            ("(a0 or a1) and (if a2 then a3 else 1)", [
                (AND, 0, 15, 3), (OR, 0, 6, 2), (NAME, 0, 1, 1), (NAME, 4, 1, 1), (IF, 7, 5, 2), (NAME, 7, 1, 1), (NAME, 9, 1, 1), (NUMBER, 11, 1, 1)]),
            ("if a0 then if a1 then 1 else 2 else if a2 then 3 else 4", [
                (IF, 0, 13, 3), (NAME, 0, 1, 1), (IF, 2, 5, 2), (NAME, 2, 1, 1), (NUMBER, 4, 1, 1), (NUMBER, 6, 1, 1),
                (IF, 8, 5, 2), (NAME, 8, 1, 1), (NUMBER, 10, 1, 1), (NUMBER, 12, 1, 1)]),
            ("a0 + a1 * a2 - a3", [
                (TWO, 0, 7, 4), (TWO, 0, 5, 3), (NAME, 0, 1, 1), (TWO, 1, 3, 2), (NAME, 1, 1, 1), (NAME, 2, 1, 1), (NAME, 5, 1, 1)]),
        )

    def test_each_form_in_each_form(self):
        """What parts tells cuts out of the code just the code of the part."""
        forms = ["7", "a0", "-{}", "not {}", "{} + {}", "{} < {}", "{} and {}", "{} or {}", "if {} then {} else {}", "min({}, {})", "max({}, {}, {})",
                 "g1({})", "g2({}, {}, {})", "t1({})", "floor({})"]
        for outer in forms:
            for inner in forms:
                for innermost in ("a0", "(a0 or 2)", "min(1, a0)"):
                    part = "(" + inner.replace("{}", innermost) + ")"
                    self.cut(row(4, outer.replace("{}", part)))

    def cut(self, numbers):
        instructions = reference.instructions(numbers)
        found = parted(4, numbers)
        self.assertEqual(found[0][1:3], (0, len(instructions)))
        whole = reference.every(reference.simple_tree(numbers, 4))
        self.assertEqual(len(found), len(whole))
        for (form, begin, count, height), part in zip(found, whole):
            cut = reference.flat(instructions[begin:begin + count])
            self.assertEqual(tree(4, cut), reference.printed(part))
            self.assertEqual(form, reference.FORMS.index(part[0]))
            self.assertEqual(height, reference.height(part))
            self.assertEqual(parted(4, cut)[0], (form, 0, count, height))


class Bounds(Parts):
    def test_the_largest_number_of_parts(self):
        """Each part has an instruction of at least two numbers: at most 250 of them."""
        texts = ["a0"] * 125
        while len(texts) > 1:
            joined = [f"({texts[at]} + {texts[at + 1]})" for at in range(0, len(texts) - 1, 2)]
            texts = joined + texts[len(texts) - len(texts) % 2:]
        numbers = row(1, "-" + texts[0])
        self.assertEqual(len(numbers), 500)
        found = parted(1, numbers)
        self.assertEqual(len(found), 250)
        self.assertEqual(found[0], (ONE, 0, 250, 9))
        self.assertEqual([begin for form, begin, count, height in found if form == NAME],
                         [place for place in range(250) if reference.instructions(numbers)[place][0] == 1])
        self.assertEqual(stackback.stackcode.parts(1, numbers), reference.parts(1, numbers))

    def test_height(self):
        found = parted(1, [1, 0] + [3, 2] * 31)
        self.assertEqual(found, [(ONE, 0, height, height) for height in range(32, 1, -1)] + [(NAME, 0, 1, 1)])
        self.assertEqual(stackback.stackcode.parts(1, [1, 0] + [3, 2] * 32), [-4])
        found = parted(1, [1, 0] * 32 + [4, 0] * 31)
        self.assertEqual([row for row in found if row[0] == TWO], [(TWO, 32 - height, 2 * height - 1, height) for height in range(32, 1, -1)])
        found = parted(1, [1, 0] + [1, 0, 4, 0] * 31)
        self.assertEqual(found[:32], [(TWO, 0, 2 * height - 1, height) for height in range(32, 1, -1)] + [(NAME, 0, 1, 1)])
        self.assertEqual(found[32:], [(NAME, 2 * place - 1, 1, 1) for place in range(1, 32)])

    def test_nothing_is_folded(self):
        self.wanted(("1 + 2", [(TWO, 0, 3, 2), (NUMBER, 0, 1, 1), (NUMBER, 1, 1, 1)]), ("a0 * 1", [(TWO, 0, 3, 2), (NAME, 0, 1, 1), (NUMBER, 1, 1, 1)]))


if __name__ == "__main__":
    unittest.main()
