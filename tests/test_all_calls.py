"""All eight calls together: what each answers, in whatever order they are called, and how they fit one another."""

import importlib
import json
import os
import pkgutil
import random
import subprocess
import sys
import unittest

import stackback
import stackback.stackcode
from helper import KINDS, row, signs
from stackback.stackcode import canon, code, fold, measure, parts, put, same, tree

ROOT = os.path.dirname(os.path.dirname(os.path.abspath(__file__)))
TEXTS = [text for texts in KINDS for text in texts] + [
    "min(a0, min(a1, v0))", "min(min(a0, a1), v0)", "max(1, 2, 3)", "1 - 3", "if 1 < 2 then a0 + 0 else a1", "0 and a0", "1 or a0", "-(not a0)",
    "if a0 and 1 then min(a0, g1(a1, 2)) else -(a0 or t3(a1))", "g0(min(1), max(2, max(3, 4)))", "2 ^ 10 // 3:2", "a0 ^ -a1 ^ 2",
]
WRONG_TEXTS = ["", "a0 +", "x", "-" * 32 + "a0", "(" * 33 + "a0" + ")" * 33, "a0" + " " * 2000, "min(" + ", ".join(["a0"] * 126) + ")"]
WRONG_ROWS = [[], [77], [1, 0, 9], [1, 0] * 251, [1, 0] + [3, 0] * 40]


def all_jobs():
    """Calls by name with their arguments: right ones and refused ones."""
    jobs = []
    rows = [row(4, text) for text in TEXTS] + WRONG_ROWS
    texts = [signs(text) for text in TEXTS + WRONG_TEXTS]
    for n in (4, 1, 0, 9):
        jobs += [(name, [n, numbers]) for name in ("tree", "fold", "measure", "parts") for numbers in rows]
        jobs += [(name, [n, text]) for name in ("code", "canon") for text in texts]
        jobs += [("same", [n, text, other]) for text in texts[::5] for other in texts[::4]]
        jobs += [("put", [n, i, numbers, other]) for i in (-1, 0, 1, 3) for numbers in rows[::5] for other in rows[::7]]
    return jobs


def answers_of(jobs):
    return [getattr(stackback.stackcode, name)(*arguments) for name, arguments in jobs]


def kept_at_the_top():
    """What stands at the top of every file of the package, written out."""
    found = {}
    for module in pkgutil.iter_modules(stackback.__path__):
        values = vars(importlib.import_module(f"stackback.{module.name}"))
        found[module.name] = {name: repr(value) for name, value in values.items() if not name.startswith("__")}
    found[""] = {name: repr(value) for name, value in vars(stackback).items() if not name.startswith("__")}
    return found


class NothingIsKept(unittest.TestCase):
    def test_in_whatever_order(self):
        jobs = all_jobs()
        wanted = answers_of(jobs)
        order = list(range(len(jobs)))
        chance = random.Random(31)
        for again in range(3):
            chance.shuffle(order)
            for place in order:
                name, arguments = jobs[place]
                self.assertEqual(getattr(stackback.stackcode, name)(*arguments), wanted[place], jobs[place])

    def test_as_if_for_the_first_time(self):
        """Each call in an interpreter of its own answers as it does behind all others."""
        jobs = random.Random(32).sample(all_jobs(), 24)
        answers_of(all_jobs())
        program = "import json, sys, stackback.stackcode as s; j = json.load(sys.stdin); print(json.dumps(getattr(s, j[0])(*j[1])))"
        for job in jobs:
            done = subprocess.run([sys.executable, "-B", "-c", program], input=json.dumps(job), capture_output=True, text=True, check=True,
                                  env={**os.environ, "PYTHONPATH": ROOT})
            self.assertEqual((json.loads(done.stdout), done.stderr), (answers_of([job])[0], ""), job)

    def test_answers_may_be_changed(self):
        for name, arguments in all_jobs()[::7]:
            call = getattr(stackback.stackcode, name)
            first = call(*arguments)
            wanted = list(first)
            first.reverse()
            first.append(5)
            self.assertEqual(call(*arguments), wanted)

    def test_what_is_handed_in_may_be_changed_afterwards(self):
        for name, arguments in all_jobs()[::11]:
            call = getattr(stackback.stackcode, name)
            given = [list(part) if isinstance(part, list) else part for part in arguments]
            answer = call(*given)
            wanted = list(answer)
            for part in given:
                if isinstance(part, list):
                    part.clear()
            self.assertEqual(answer, wanted)
            self.assertEqual(call(*arguments), wanted)

    def test_the_tops_of_the_files(self):
        before = kept_at_the_top()
        answers_of(all_jobs())
        self.assertEqual(kept_at_the_top(), before)


class TheyFitOneAnother(unittest.TestCase):
    def test_texts_there_and_back(self):
        for text in TEXTS:
            numbers = row(4, text)
            printed = tree(4, numbers)
            self.assertEqual(canon(4, signs(text)), printed)
            self.assertEqual(code(4, printed[2:]), [0, len(numbers)] + numbers)
            self.assertEqual(same(4, signs(text), printed[2:]), [0, 1])

    def test_parts_and_measure(self):
        for text in TEXTS:
            numbers = row(4, text)
            measured = measure(4, numbers)
            told = parts(4, numbers)
            self.assertEqual(told[1], measured[3])
            self.assertEqual(told[4:6], measured[1:3])

    def test_put_and_parts(self):
        for text in TEXTS:
            numbers = row(4, text)
            count = parts(4, numbers)[1]
            for i in range(count):
                self.assertEqual(put(4, i, numbers, [0, 1, 1])[0], 0)
            self.assertEqual(put(4, count, numbers, [0, 1, 1]), [-12])
            self.assertEqual(put(4, 0, [0, 1, 1], numbers), [0, len(numbers)] + numbers)

    def test_fold_is_a_code_again(self):
        for text in TEXTS:
            after = fold(4, row(4, text))
            self.assertEqual(tree(4, after[2:])[0], 0)
            self.assertEqual(fold(4, after[2:])[0], 0)

    def test_all_kinds_of_answers(self):
        for name, arguments in all_jobs():
            answer = getattr(stackback.stackcode, name)(*arguments)
            self.assertIs(type(answer), list)
            self.assertEqual({type(number) for number in answer}, {int})
            if answer[0] != 0:
                self.assertEqual(len(answer), 1)
                self.assertIn(answer[0], (-1, -2, -3, -4, -5, -6, -7, -8, -12))
            elif name in ("tree", "code", "fold", "canon", "put"):
                self.assertEqual(answer[1], len(answer) - 2)
            elif name == "parts":
                self.assertEqual(len(answer), 2 + 4 * answer[1])
            else:
                self.assertEqual(len(answer), 6 if name == "measure" else 2)


if __name__ == "__main__":
    unittest.main()
