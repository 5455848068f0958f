"""The names that may be used: the first and the last of each sort, the one behind it, and wrong uses."""

import unittest

from helper import code, row, tree

# Name of the first, number of the first, how many there are.
READ = [
    ("p{}", 64, 16), ("v{}", 128, 64), ("f{}.free", 256, 64), ("f{}.holder", 320, 64), ("s{}.used", 384, 64),
    ("s{}.left", 448, 64), ("s{}.open", 512, 64), ("q{}.content", 576, 64), ("c{}.length", 640, 64), ("k{}", 704, 64),
    ("f{}.open", 832, 64), ("f{}.displaced", 896, 64),
]
ALONE = {"clock": 0, "living": 1, "me": 192, "priority": 193, "elapsed": 194, "age": 195, "family": 196}


class Read(unittest.TestCase):
    def test_those_alone(self):
        for name, number in ALONE.items():
            self.assertEqual(row(0, name), [2, number], name)
            self.assertEqual(tree(0, [2, number]), name)

    def test_all_numbered_ones(self):
        for pattern, first, count in READ:
            for i in range(count):
                self.assertEqual(row(0, pattern.format(i)), [2, first + i], pattern)
                self.assertEqual(tree(0, [2, first + i]), pattern.format(i))

    def test_the_one_behind_the_last(self):
        for pattern, first, count in READ:
            for wrong in (count, count + 1, 100, 10 ** 9):
                self.assertEqual(code(0, pattern.format(wrong)), [-8], pattern.format(wrong))

    def test_numbers_that_name_nothing(self):
        known = set(ALONE.values())
        for pattern, first, count in READ:
            known.update(range(first, first + count))
        for number in range(-5, 1100):
            if number not in known:
                self.assertEqual(tree(8, [2, number]), [-3], number)
        for number in (2, 63, 80, 127, 197, 255, 768, 831, 960, 10 ** 18, -1, -10 ** 18):
            self.assertNotIn(number, known)
            self.assertEqual(tree(8, [2, number]), [-3], number)

    def test_zeros_before_and_no_number(self):
        for pattern, first, count in READ:
            for wrong in ("", "00", "01", "007", "1_", "1x", "_1", "1.0"):
                name = pattern.format(wrong)
                self.assertEqual(code(0, name), [-6] if ".0" in name else [-8], name)

    def test_not_with_brackets(self):
        for name in list(ALONE) + [pattern.format(0) for pattern, first, count in READ]:
            for parts in ("1", "1, 2"):
                self.assertEqual(code(0, f"{name}({parts})"), [-8], name)
            self.assertEqual(code(0, f"{name}()"), [-6], name)

    def test_what_is_behind_the_point(self):
        for name in ("f1", "s1", "q1", "c1", "f1.used", "s1.free", "q1.length", "c1.content", "p1.free", "k1.open", "v1.open",
                     "f1.fre", "f1.freee", "f1.Free", "F1.free", "q1.open", "clock.x", "f.free", "f1.displaced1", "me0"):
            self.assertEqual(code(0, name), [-8], name)

    def test_large_and_small_letters(self):
        for name in ("Clock", "CLOCK", "P0", "V1", "F1.free", "G0", "A0", "T0"):
            self.assertEqual(code(8, name), [-8], name)


class Parameters(unittest.TestCase):
    def test_as_many_as_the_call_tells(self):
        for n in range(9):
            for i in range(11):
                right = i < n
                self.assertEqual(code(n, f"a{i}"), [0, 2, 1, i] if right else [-8], (n, i))
                self.assertEqual(tree(n, [1, i]), f"a{i}" if right else [-3], (n, i))

    def test_wrong_ones(self):
        for name in ("a", "a00", "a01", "a0_", "a0x", "a8", "a10", "a1.free"):
            self.assertEqual(code(8, name), [-8], name)
        for number in (-1, 8, 9, 10 ** 18, -10 ** 18):
            self.assertEqual(tree(8, [1, number]), [-3], number)

    def test_not_with_brackets(self):
        self.assertEqual(code(8, "a0(1)"), [-8])
        self.assertEqual(code(8, "a0(1, 2)"), [-8])


class Formulas(unittest.TestCase):
    def test_bare(self):
        for i in range(64):
            self.assertEqual(row(0, f"g{i}"), [8, i, 0])
            self.assertEqual(tree(0, [8, i, 0]), f"g{i}")
        for wrong in ("g64", "g", "g00", "g07", "g100", "g1.free", "g1_"):
            self.assertEqual(code(0, wrong), [-8], wrong)
            self.assertEqual(code(0, wrong + "(1)"), [-8], wrong)

    def test_with_parts(self):
        for i in (0, 63):
            for count in range(1, 9):
                text = f"g{i}(" + ", ".join(["a0"] * count) + ")"
                self.assertEqual(row(1, text), [1, 0] * count + [8, i, count])
                self.assertEqual(tree(1, [1, 0] * count + [8, i, count]), text)
            for count in (9, 10, 40):
                self.assertEqual(code(1, f"g{i}(" + ", ".join(["a0"] * count) + ")"), [-8])
                self.assertEqual(tree(1, [1, 0] * count + [8, i, count]), [-3])

    def test_wrong_rows(self):
        for formula in (-1, 64, 10 ** 18, -10 ** 18):
            self.assertEqual(tree(1, [8, formula, 0]), [-3])
            self.assertEqual(tree(1, [1, 0, 8, formula, 1]), [-3])
        for count in (-1, 1, 2, 10 ** 18, -10 ** 18):
            self.assertEqual(tree(1, [8, 0, count]), [-3])


class Tables(unittest.TestCase):
    def test_with_one_part(self):
        for i in range(64):
            self.assertEqual(row(1, f"t{i}(a0)"), [1, 0, 7, i])
            self.assertEqual(tree(1, [1, 0, 7, i]), f"t{i}(a0)")

    def test_in_another_way(self):
        for text in ("t0", "t63", "t0(1, 2)", "t0(1, 2, 3)", "t64(1)", "t(1)", "t00(1)", "t01(1)", "t64", "t1.x(1)"):
            self.assertEqual(code(1, text), [-8], text)
        self.assertEqual(code(1, "t0()"), [-6])

    def test_wrong_rows(self):
        for table in (-1, 64, 65, 10 ** 18, -10 ** 18):
            self.assertEqual(tree(1, [1, 0, 7, table]), [-3])
        self.assertEqual(tree(1, [7, 0]), [-3])


class Anywhere(unittest.TestCase):
    def test_a_wrong_name_in_any_place(self):
        for text in ("x + 1", "1 + x", "-x", "not x", "if x then 1 else 2", "if 1 then x else 2", "if 1 then 2 else x",
                     "x and 1", "1 and x", "x or 1", "1 or x", "min(1, x)", "max(x, 1)", "floor(x)", "g0(1, x)", "t0(x)",
                     "x ^ 2", "2 ^ x", "(x)", "x(1)", "min(x)", "min.x", "min.x(1)", "x.y", "x(y(1))"):
            self.assertEqual(code(8, text), [-8], text)


if __name__ == "__main__":
    unittest.main()
