"""The package keeps to the small part of Python that it is written in: many of LANGUAGE.md's rules, not all."""

import ast
import builtins
import os
import re
import tokenize
import unittest

TOP = os.path.join(os.path.dirname(os.path.abspath(__file__)), os.pardir)
PACKAGE = os.path.join(TOP, "stackback")

ERRORS = (
    "Exception ValueError TypeError KeyError IndexError LookupError ZeroDivisionError ArithmeticError OverflowError "
    "RuntimeError NotImplementedError AttributeError StopIteration"
).split()
ALLOWED_BUILTINS = (
    "len range enumerate zip min max sum abs sorted reversed int str bool list tuple dict set frozenset isinstance ord "
    "repr any all divmod"
).split() + ERRORS
METHODS = (
    "append clear copy count endswith extend find get index insert isalnum isalpha isdigit islower isspace isupper items "
    "join keys ljust lower lstrip partition pop remove replace reverse rfind rjust rpartition rsplit rstrip setdefault "
    "split splitlines startswith strip update upper values zfill bit_length"
).split()
SPECIAL_METHODS = ["__init__", "__eq__", "__repr__", "__str__", "__len__"]
NOT_USED = "register mro elements open input version_info with_traceback add_note format format_map".split()
NOT_AS_NAMES = (
    "attrgetter breakpoint builtins compile copyright credits delattr dir eval exec exit gc getattr globals hasattr help id "
    "importlib license locals methodcaller os quit setattr super type vars sys __name__ chr"
).split()
NOT_ANYWHERE = (
    r"\b(type|typing|typing_extensions|enum|Enum|IntEnum|StrEnum|Flag|IntFlag|Generic|Protocol|ABC|ABCMeta|namedtuple|"
    r"NamedTuple|TypedDict|TYPE_CHECKING|abstractmethod)\b|dataclass|overload|contextmanager"
)
VALUES_NOT_ALLOWED = "items keys values pop update append clear extend insert remove reverse setdefault sort args encode format".split()
VALUES_ALLOWED = "count index title find get join lower upper split strip copy add".split()
STATEMENTS = (
    ast.Assign, ast.AugAssign, ast.If, ast.While, ast.For, ast.Return, ast.Break, ast.Continue, ast.Pass, ast.Raise, ast.Try,
    ast.Expr, ast.FunctionDef, ast.ClassDef, ast.ImportFrom,
)
EXPRESSIONS = (
    ast.BoolOp, ast.BinOp, ast.UnaryOp, ast.Lambda, ast.IfExp, ast.Dict, ast.Set, ast.ListComp, ast.Compare, ast.Call,
    ast.JoinedStr, ast.FormattedValue, ast.Constant, ast.Attribute, ast.Subscript, ast.Name, ast.List, ast.Tuple, ast.Slice,
)
WALKED = ["zip", "enumerate", "reversed", "range"]
WALKED_METHODS = ["items", "keys", "values"]
TAKERS = ["list", "tuple", "dict", "sorted", "sum", "any", "all", "enumerate", "zip", "min", "max"]


def package_files():
    return sorted(name for name in os.listdir(PACKAGE) if name != "__pycache__")


def source(name):
    with open(os.path.join(PACKAGE, name), encoding="utf-8", newline="") as file:
        return file.read()


def parsed(name):
    return ast.parse(source(name))


def nodes(name, *kinds):
    return [node for node in ast.walk(parsed(name)) if isinstance(node, kinds)]


def is_plain(node):
    """Whether a value at a file's top is written out plainly."""
    if isinstance(node, ast.Constant):
        return node.value is None or isinstance(node.value, (int, str))
    if isinstance(node, (ast.List, ast.Tuple)):
        return all(is_plain(part) for part in node.elts)
    if isinstance(node, ast.Dict):
        return all(is_plain(part) for part in node.keys + node.values)
    return isinstance(node, ast.UnaryOp) and isinstance(node.op, ast.USub) and is_plain(node.operand)


def bound_names(tree):
    """Every name that a file binds anywhere."""
    for node in ast.walk(tree):
        if isinstance(node, (ast.FunctionDef, ast.ClassDef)):
            yield node.name
        elif isinstance(node, ast.arg):
            yield node.arg
        elif isinstance(node, ast.Name) and isinstance(node.ctx, ast.Store):
            yield node.id
        elif isinstance(node, ast.ExceptHandler) and node.name:
            yield node.name
        elif isinstance(node, ast.alias):
            yield node.asname or node.name


class EveryFile(unittest.TestCase):
    """Each test goes through all files of the package."""

    def each(self, *kinds):
        for name in package_files():
            for node in nodes(name, *kinds):
                yield node, f"{name}:{getattr(node, 'lineno', 0)}"

    def test_files(self):
        self.assertIn("__init__.py", package_files())
        self.assertIn("stackcode.py", package_files())
        for name in package_files():
            self.assertRegex(name, r"^(__init__|[a-z][a-z0-9_]*)\.py$")
            stem = name[:-3]
            self.assertNotIn(stem, dir(builtins))
            self.assertNotRegex(stem, r"^(test|tests|testing|test_.*|site|conftest|sitecustomize|usercustomize)$")
            self.assertNotRegex(stem, NOT_ANYWHERE)

    def test_size_and_signs(self):
        for name in package_files():
            text = source(name)
            self.assertRegex(text, r"\A[ -~\n]*\Z", name)
            self.assertIsNone(re.search(NOT_ANYWHERE, text), name)
            lines = text.split("\n")
            self.assertLessEqual(len(lines), 401, name)
            self.assertLessEqual(max(len(line) for line in lines), 120, name)
        for node, where in self.each(ast.FunctionDef):
            self.assertLessEqual(node.end_lineno - node.lineno + 1, 40, where)

    def test_the_top(self):
        for name in package_files():
            seen = []
            for place, node in enumerate(parsed(name).body):
                where = f"{name}:{node.lineno}"
                if isinstance(node, ast.Expr):
                    self.assertTrue(place == 0 and isinstance(node.value, ast.Constant), where)
                elif isinstance(node, ast.Assign):
                    self.assertTrue(is_plain(node.value), where)
                    seen.append(node.targets[0].id)
                    if isinstance(node.value, (ast.List, ast.Dict)):
                        inner = [part for part in ast.walk(node.value) if isinstance(part, (ast.List, ast.Dict))]
                        self.assertEqual(len(inner), 1, where)
                elif isinstance(node, ast.ImportFrom):
                    seen.extend(part.name for part in node.names)
                else:
                    self.assertIsInstance(node, (ast.FunctionDef, ast.ClassDef), where)
                    seen.append(node.name)
            self.assertEqual(len(seen), len(set(seen)), name)

    def test_imports(self):
        files = {}
        for name in package_files():
            files[name] = []
            for node in nodes(name, ast.Import, ast.ImportFrom):
                self.assertIsInstance(node, ast.ImportFrom, name)
                self.assertEqual(node.level, 0, name)
                self.assertRegex(node.module, r"^stackback\.[a-z0-9_]+$")
                drawn = node.module.split(".")[1] + ".py"
                files[name].append(drawn)
                defined = [part.name for part in parsed(drawn).body if isinstance(part, (ast.FunctionDef, ast.ClassDef))]
                defined += [part.targets[0].id for part in parsed(drawn).body if isinstance(part, ast.Assign)]
                for part in node.names:
                    self.assertIn(part.name, defined, name)
                    self.assertIsNone(part.asname, name)
        self.assertEqual(files["__init__.py"], [])
        left = dict(files)
        while left:
            free = [name for name in left if not any(drawn in left for drawn in left[name])]
            self.assertTrue(free, f"files that draw from one another: {sorted(left)}")
            left = {name: left[name] for name in left if name not in free}

    def test_statements_and_expressions(self):
        for node, where in self.each(ast.stmt):
            self.assertIsInstance(node, STATEMENTS, where)
        for node, where in self.each(ast.expr):
            self.assertIsInstance(node, EXPRESSIONS, where)
        for node, where in self.each(ast.For, ast.While):
            self.assertEqual(node.orelse, [], where)
        for node, where in self.each(ast.Assign):
            self.assertEqual(len(node.targets), 1, where)
            self.assertIsInstance(node.targets[0], (ast.Name, ast.Attribute, ast.Subscript), where)
            if isinstance(node.targets[0], ast.Attribute):
                self.assertIsInstance(node.targets[0].value, ast.Name, where)
        for node, where in self.each(ast.ListComp):
            self.assertTrue(len(node.generators) == 1 and len(node.generators[0].ifs) <= 1, where)
        for node, where in self.each(ast.Try):
            self.assertEqual(node.finalbody, [], where)
        for node, where in self.each(ast.BinOp):
            self.assertNotIsInstance(node.op, (ast.Div, ast.MatMult, ast.Pow), where)
        for node, where in self.each(ast.Compare):
            for sign, right in zip(node.ops, node.comparators):
                if isinstance(sign, (ast.Is, ast.IsNot)):
                    self.assertTrue(isinstance(right, ast.Constant) and right.value in (None, True, False), where)

    def test_values(self):
        for node, where in self.each(ast.Constant):
            self.assertTrue(node.value is None or isinstance(node.value, (bool, int, str)), where)
            if isinstance(node.value, str):
                self.assertNotIn("%", node.value, where)
        for name in package_files():
            for string in [part for part in tokens_of(name) if part.type == tokenize.STRING]:
                self.assertIsNone(re.search(r"\\[^nt\\'\"]", string.string), name)

    def test_functions_and_classes(self):
        for node, where in self.each(ast.FunctionDef):
            self.assertEqual(node.decorator_list, [], where)
            self.assertIsNone(node.returns, where)
            self.assertTrue(not node.args.vararg and not node.args.kwarg and not node.args.kwonlyargs, where)
            self.assertEqual([part for part in node.args.args if part.annotation], [], where)
        methods = {}
        values = {}
        for node, where in self.each(ast.ClassDef):
            self.assertTrue(len(node.bases) <= 1 and not node.decorator_list and not node.keywords, where)
            names = [part.name for part in node.body if isinstance(part, ast.FunctionDef)]
            self.assertEqual(len(names), len(set(names)), where)
            for part in node.body[1:]:
                self.assertIsInstance(part, ast.FunctionDef, where)
            methods.update({name: where for name in names})
        for node, where in self.each(ast.Attribute):
            if isinstance(node.ctx, ast.Store):
                values[node.attr] = where
        self.assertEqual([name for name in values if name in methods], [])
        known = dir("") + dir(0) + dir([]) + dir({}) + dir(set()) + dir(b"")
        for name in values:
            self.assertTrue(name in VALUES_ALLOWED or name not in known + VALUES_NOT_ALLOWED, name)
        for name in methods:
            self.assertTrue(name in SPECIAL_METHODS + METHODS + ["add", "discard"] or name not in known, name)

    def test_names(self):
        for name in package_files():
            tree = parsed(name)
            imported = [part.name for node in ast.walk(tree) if isinstance(node, ast.ImportFrom) for part in node.names]
            classes = [node.name for node in ast.walk(tree) if isinstance(node, ast.ClassDef)]
            for bound in bound_names(tree):
                self.assertTrue(re.match(r"^[A-Za-z][A-Za-z0-9_]*$", bound) or bound in SPECIAL_METHODS, f"{name}: {bound}")
                self.assertNotIn(bound, dir(builtins), name)
                self.assertNotIn(bound, NOT_USED + NOT_AS_NAMES, name)
            for node in ast.walk(tree):
                if isinstance(node, ast.arg):
                    self.assertNotIn(node.arg, imported + classes, name)
                if isinstance(node, ast.Name) and isinstance(node.ctx, ast.Store):
                    self.assertNotIn(node.id, imported + classes, name)
                if isinstance(node, ast.Name):
                    self.assertNotIn(node.id, NOT_USED + NOT_AS_NAMES, f"{name}:{node.lineno}")
                    if node.id in dir(builtins):
                        self.assertIn(node.id, ALLOWED_BUILTINS, f"{name}:{node.lineno}")
                if isinstance(node, ast.Attribute):
                    self.assertNotIn(node.attr, NOT_USED, f"{name}:{node.lineno}")
                    self.assertFalse(node.attr.startswith("_") and node.attr != "__init__", f"{name}:{node.lineno}")

    def test_calls(self):
        own = {node.name for node, where in self.each(ast.FunctionDef)}
        for node, where in self.each(ast.Call):
            if isinstance(node.func, ast.Attribute):
                self.assertIn(node.func.attr, METHODS + sorted(own), where)
                self.assertEqual(node.keywords, [], where)
            elif isinstance(node.func, ast.Name) and node.keywords:
                self.assertIn(node.func.id, ("sorted", "min", "max", "sum", "enumerate", "zip"), where)

    def test_walked_on_the_spot(self):
        for name in package_files():
            right = []
            for node in nodes(name, ast.For, ast.comprehension, ast.Call):
                if isinstance(node, (ast.For, ast.comprehension)):
                    right.append(ast.dump(node.iter))
                elif isinstance(node.func, ast.Name) and node.func.id in TAKERS and node.args:
                    right.append(ast.dump(node.args[0]))
            for node in nodes(name, ast.Call):
                walked = isinstance(node.func, ast.Name) and node.func.id in WALKED
                if walked or isinstance(node.func, ast.Attribute) and node.func.attr in WALKED_METHODS:
                    self.assertIn(ast.dump(node), right, f"{name}:{node.lineno}")
                self.assertFalse(isinstance(node.func, ast.Name) and node.func.id in ("set", "frozenset"), name)

    def test_errors(self):
        for node, where in self.each(ast.ExceptHandler):
            self.assertTrue(isinstance(node.type, ast.Name) and node.type.id not in ERRORS, where)
        for node, where in self.each(ast.Raise):
            self.assertTrue(isinstance(node.exc, ast.Call) and node.cause is None, where)

    def test_what_stands_at_the_top_is_only_read(self):
        for name in package_files():
            tree = parsed(name)
            kept = [
                node.targets[0].id for node in tree.body
                if isinstance(node, ast.Assign) and isinstance(node.value, (ast.List, ast.Dict))
            ]
            right = []
            for node in ast.walk(tree):
                if isinstance(node, ast.Subscript) and isinstance(node.ctx, ast.Load):
                    right.append(node.value)
                elif isinstance(node, (ast.For, ast.comprehension)):
                    right.append(node.iter)
                elif isinstance(node, ast.Compare):
                    right.extend(node.comparators)
                elif isinstance(node, ast.Attribute) and node.attr in ("get", "items", "keys", "values", "index", "count"):
                    right.append(node.value)
                elif isinstance(node, ast.Call) and isinstance(node.func, ast.Name) and node.func.id in ("len", "list", "dict"):
                    right.extend(node.args)
            for node in ast.walk(tree):
                if isinstance(node, ast.Name) and node.id in kept and isinstance(node.ctx, ast.Load):
                    self.assertTrue(any(node is part for part in right), f"{name}:{node.lineno}")


def tokens_of(name):
    with open(os.path.join(PACKAGE, name), "rb") as file:
        return list(tokenize.tokenize(file.readline))


class Interface(unittest.TestCase):
    def test_names_and_arguments(self):
        found = {node.name: [part.arg for part in node.args.args] for node in parsed("stackcode.py").body
                 if isinstance(node, ast.FunctionDef)}
        self.assertEqual(found["tree"], ["n", "code"])
        self.assertEqual(found["code"], ["n", "text"])
        self.assertEqual(found["fold"], ["n", "code"])
        self.assertEqual(found["measure"], ["n", "code"])
        self.assertEqual(found["canon"], ["n", "text"])
        self.assertEqual(found["same"], ["n", "text", "other"])
        self.assertEqual(found["parts"], ["n", "code"])
        self.assertEqual(found["put"], ["n", "i", "code", "other"])


if __name__ == "__main__":
    unittest.main()
