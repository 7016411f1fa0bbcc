"""The rules of ../shared/LANGUAGE.md that can be read off the files, each with its number.

This is a net for slips, not a proof: a rule that asks what a value is when the program runs is not checked here.
"""

import ast
import builtins
import pathlib
import re
import unittest

PACKAGE = pathlib.Path(__file__).resolve().parent.parent / "threecounts"
FILES = {path.name: path.read_text(encoding="utf-8") for path in sorted(PACKAGE.glob("*.py"))}
TREES = {name: ast.parse(source) for name, source in FILES.items()}

BUILTINS = """len range enumerate zip min max sum abs sorted reversed int str bool bytes list tuple dict set frozenset
isinstance ord repr any all divmod iter next super property staticmethod classmethod Exception ValueError TypeError
KeyError IndexError LookupError ZeroDivisionError ArithmeticError OverflowError RuntimeError NotImplementedError
AttributeError StopIteration NotImplemented""".split()
SPECIAL = """init eq repr str len enter exit call iter lt le gt ge ne add sub mul floordiv mod pow and or xor lshift
rshift radd rsub rmul rfloordiv rmod rand ror rxor rlshift rrshift iadd isub imul ifloordiv imod ipow iand ior ixor
ilshift irshift neg pos invert abs bool contains getitem setitem""".split()
BUILTIN_METHODS = """append clear copy count endswith extend find get index insert isalnum isalpha isdigit islower
isspace isupper items join keys ljust lower lstrip partition pop remove replace reverse rfind rjust rpartition rsplit
rstrip setdefault split splitlines startswith strip update upper values zfill bit_length title capitalize swapcase
casefold center expandtabs removeprefix removesuffix rindex isascii isdecimal isnumeric istitle isidentifier
isprintable add discard sort encode decode hex translate""".split()
BARRED_NAMES = """register mro elements open input law version_info with_traceback add_note attrgetter breakpoint
builtins compile copyright credits delattr dir eval exec exit gc getattr globals hasattr help id importlib license
locals methodcaller os quit setattr type vars sys format format_map""".split()
BARRED_WORDS = """type typing typing_extensions enum Enum IntEnum StrEnum Flag IntFlag Generic Protocol ABC ABCMeta
namedtuple NamedTuple TypedDict TYPE_CHECKING abstractmethod""".split()
STATEMENTS = (ast.FunctionDef, ast.ClassDef, ast.Return, ast.Delete, ast.Assign, ast.AugAssign, ast.For, ast.While,
              ast.If, ast.With, ast.Match, ast.Raise, ast.Try, ast.Assert, ast.ImportFrom, ast.Nonlocal, ast.Expr,
              ast.Pass, ast.Break, ast.Continue)


def nodes(kind):
    """Tuples of a file's name and each node of a kind in it."""
    return [(name, node) for name, tree in TREES.items() for node in ast.walk(tree) if isinstance(node, kind)]


def is_docstring(node):
    return isinstance(node, ast.Expr) and isinstance(node.value, ast.Constant) and isinstance(node.value.value, str)


def bound_names():
    """Tuples of a file's name, a line and a name that is given a meaning there."""
    rows = []
    for name, node in nodes((ast.FunctionDef, ast.ClassDef)):
        rows.append((name, node.lineno, node.name))
    for name, node in nodes(ast.arg):
        rows.append((name, node.lineno, node.arg))
    for name, node in nodes(ast.Name):
        if isinstance(node.ctx, ast.Store):
            rows.append((name, node.lineno, node.id))
    for name, node in nodes(ast.Attribute):
        if isinstance(node.ctx, ast.Store):
            rows.append((name, node.lineno, node.attr))
    return rows


def methods():
    return [(name, holder, row) for name, holder in nodes(ast.ClassDef)
            for row in holder.body if isinstance(row, ast.FunctionDef)]


class Language(unittest.TestCase):

    def none(self, rule, found):
        self.assertEqual([], found, rule)

    def test_l1_files(self):
        names = [path.name for path in PACKAGE.iterdir() if path.name != "__pycache__"]
        self.none("L1", [name for name in names if not re.fullmatch(r"[a-z0-9_]+\.py", name)])
        self.assertIn("__init__.py", names)

    def test_l2_l16_imports(self):
        self.none("L2", [(name, node.lineno) for name, node in nodes(ast.Import)])
        for name, node in nodes(ast.ImportFrom):
            where = (name, node.lineno)
            self.assertEqual(node.level, 0, where)
            self.assertTrue(node.module.startswith("threecounts."), where)
            defined = []
            for row in TREES[node.module.split(".", 1)[1] + ".py"].body:
                if isinstance(row, (ast.FunctionDef, ast.ClassDef)):
                    defined.append(row.name)
                elif isinstance(row, ast.Assign):
                    defined.append(row.targets[0].id)
            for alias in node.names:
                self.assertIsNone(alias.asname, where)
                self.assertIn(alias.name, defined, where)

    def test_l3_module_level(self):
        for name, tree in TREES.items():
            bound = []
            for row in tree.body:
                where = (name, row.lineno)
                allowed = is_docstring(row) or isinstance(row, (ast.ImportFrom, ast.FunctionDef, ast.ClassDef))
                if isinstance(row, ast.Assign):
                    self.assertEqual(len(row.targets), 1, where)
                    self.assertIsInstance(row.targets[0], ast.Name, where)
                    self.check_value(row.value, [node.name for node in tree.body if isinstance(node, ast.FunctionDef)
                                                 and node.lineno < row.lineno])
                    bound.append(row.targets[0].id)
                else:
                    self.assertTrue(allowed, where)
                if isinstance(row, ast.ImportFrom):
                    bound.extend([alias.name for alias in row.names])
                elif not is_docstring(row) and not isinstance(row, ast.Assign):
                    bound.append(row.name)
            self.assertEqual(len(bound), len(set(bound)), name)

    def check_value(self, node, functions):
        """Check that a value is plain, or a dict, list or tuple of plain values and functions defined above."""
        parts = [node]
        if isinstance(node, ast.Dict):
            parts = node.keys + node.values
        elif isinstance(node, (ast.List, ast.Tuple)):
            parts = node.elts
        for part in parts:
            if isinstance(part, ast.Name):
                self.assertIn(part.id, functions)
            else:
                ast.literal_eval(part)
                self.assertFalse(len(parts) > 1 and isinstance(part, (ast.Dict, ast.List)), "L15")

    def test_l15_tables_are_only_read(self):
        tables = {row.targets[0].id for tree in TREES.values() for row in tree.body
                  if isinstance(row, ast.Assign) and isinstance(row.value, (ast.Dict, ast.List))}
        for name, tree in TREES.items():
            allowed = []
            for node in ast.walk(tree):
                if isinstance(node, ast.Subscript) and isinstance(node.ctx, ast.Load):
                    allowed.append(node.value)
                elif isinstance(node, ast.Attribute) and node.attr == "get":
                    allowed.append(node.value)
                elif isinstance(node, (ast.For, ast.comprehension)):
                    allowed.append(node.iter)
                elif isinstance(node, ast.Compare):
                    allowed.extend(node.comparators)
                elif isinstance(node, ast.Call) and ast.unparse(node.func) in ("dict", "list", "len"):
                    allowed.extend(node.args)
            self.none("L15", [(name, node.lineno, node.id) for node in ast.walk(tree) if isinstance(node, ast.Name)
                              and isinstance(node.ctx, ast.Load) and node.id in tables and node not in allowed])

    def test_l7_comprehensions_in_one_another_use_different_names(self):
        kinds = (ast.ListComp, ast.DictComp, ast.SetComp)
        for name, outer in nodes(kinds):
            taken = self.targets(outer)
            for inner in ast.walk(outer):
                if isinstance(inner, kinds) and inner is not outer:
                    self.none("L7", [(name, inner.lineno, word) for word in self.targets(inner) if word in taken])

    def targets(self, comprehension):
        return [node.id for part in comprehension.generators for node in ast.walk(part.target)
                if isinstance(node, ast.Name)]

    def test_l16_no_two_files_import_from_each_other(self):
        above = {name[:-3]: {node.module.split(".")[1] for node in ast.walk(tree) if isinstance(node, ast.ImportFrom)}
                 for name, tree in TREES.items()}
        for name in above:
            reached = set()
            newest = set(above[name])
            while newest:
                reached |= newest
                newest = {far for near in newest for far in above[near]} - reached
            self.assertNotIn(name, reached, "L16")

    def test_l4_l5_functions_and_classes(self):
        self.none("L4", [(name, node.lineno) for name, node in nodes(ast.arguments) if node.posonlyargs])
        inside = [row for _, _, row in methods()]
        for name, node in nodes(ast.FunctionDef):
            words = [ast.unparse(row) for row in node.decorator_list]
            if node not in inside:
                self.assertEqual(words, [], (name, node.lineno))
            self.none("L5", [word for word in words if not re.fullmatch(
                r"property|staticmethod|classmethod|" + node.name + r"\.setter", word)])
        for name, _, row in methods():
            if row.name.startswith("__"):
                self.assertIn(row.name.strip("_"), SPECIAL, (name, row.lineno))
        for name, node in nodes(ast.ClassDef):
            self.assertEqual([node.decorator_list, node.keywords], [[], []], (name, node.lineno))
            own = [row.name for row in node.body if isinstance(row, ast.FunctionDef)]
            if "__getitem__" in own:
                self.assertIn("__iter__", own, (name, node.lineno))

    def test_l5_operators_change_nothing_in_place(self):
        for name, _, row in methods():
            operator = row.name.startswith("__") and row.name != "__init__" and not row.name.startswith("__i")
            if operator or [ast.unparse(word) for word in row.decorator_list] == ["property"]:
                stores = [node.lineno for node in ast.walk(row) if isinstance(node, (ast.AugAssign, ast.Delete)) or (
                    isinstance(node, (ast.Attribute, ast.Subscript)) and not isinstance(node.ctx, ast.Load))]
                self.assertEqual(stores if row.name != "__setitem__" else [], [], name)

    def test_l6_l7_statements_and_expressions(self):
        self.none("L6", [(name, node.lineno) for name, node in nodes(ast.stmt) if not isinstance(node, STATEMENTS)])
        self.none("L7", [(name, node.lineno) for name, node in nodes((ast.GeneratorExp, ast.Await, ast.AsyncFor))])
        self.none("L7", [(name, node.lineno) for name, node in nodes(ast.BinOp) if isinstance(node.op, ast.Div)])
        self.none("L7", [(name, node.lineno) for name, node in nodes(ast.Constant) if isinstance(node.value, float)])

    def test_l8_builtins(self):
        known = [word for word in dir(builtins) if word not in BUILTINS]
        self.none("L8", [(name, node.lineno, node.id) for name, node in nodes(ast.Name) if node.id in known])

    def test_l10_l14_size_and_characters(self):
        for name, source in FILES.items():
            lines = source.split("\n")
            self.assertLessEqual(len(lines) - 1, 399, name)
            self.none("L10", [(name, at) for at, line in enumerate(lines, 1) if len(line) > 120])
            self.none("L14", [(name, char) for char in source if not (" " <= char <= "~" or char == "\n")])
        self.none("L10", [(name, node.name) for name, node in nodes(ast.FunctionDef)
                          if node.end_lineno - node.lineno + 1 > 40])

    def test_l12_l15_l17_names(self):
        for name, line, word in bound_names():
            special = word.startswith("__") and word.strip("_") in SPECIAL
            self.assertTrue(special or re.fullmatch(r"[A-Za-z][A-Za-z0-9_]*", word), (name, line, word))
            self.assertNotIn(word, BARRED_NAMES, (name, line))
        own = [row.name for _, _, row in methods()]
        stored = [node.attr for _, node in nodes(ast.Attribute)]
        for name, line, word in bound_names():
            if word not in own + stored:
                self.assertFalse(hasattr(builtins, word), (name, line, word))
        for name, source in FILES.items():
            self.none("L17", [word for word in re.findall(r"\w+", source) if word in BARRED_WORDS])
            self.none("L17", re.findall("dataclass|overload|contextmanager", source))

    def test_l15_imports_and_classes_keep_their_names(self):
        for name, tree in TREES.items():
            taken = [alias.name for row in tree.body if isinstance(row, ast.ImportFrom) for alias in row.names]
            taken += [row.name for row in tree.body if isinstance(row, ast.ClassDef)]
            locals_here = [node.arg for node in ast.walk(tree) if isinstance(node, ast.arg)]
            locals_here += [node.id for node in ast.walk(tree) if isinstance(node, ast.Name)
                            and isinstance(node.ctx, ast.Store)]
            self.none("L15", [(name, word) for word in locals_here if word in taken])

    def test_l18_methods_and_attributes(self):
        own = [row.name for _, _, row in methods()]
        stored = [node.attr for _, node in nodes(ast.Attribute) if isinstance(node.ctx, ast.Store)]
        self.none("L18", [word for word in stored if word in own])
        read = [(name, node.lineno, node.attr) for name, node in nodes(ast.Attribute)]
        self.none("L25", [row for row in read if row[2] not in own + stored + BUILTIN_METHODS])
        for _, holder in nodes(ast.ClassDef):
            words = [row.name for row in holder.body if isinstance(row, ast.FunctionDef)
                     and not [word for word in row.decorator_list if "setter" in ast.unparse(word)]]
            self.assertEqual(len(words), len(set(words)), holder.name)

    def test_l19_errors_are_created_on_the_spot(self):
        classes = [holder.name for _, holder in nodes(ast.ClassDef)] + BUILTINS
        for name, node in nodes(ast.Raise):
            if node.exc is not None:
                self.assertIsInstance(node.exc, ast.Call, (name, node.lineno))
                self.assertIn(ast.unparse(node.exc.func), classes, (name, node.lineno))

    def test_l20_is(self):
        for name, node in nodes(ast.Compare):
            for sign, right in zip(node.ops, node.comparators):
                if isinstance(sign, (ast.Is, ast.IsNot)):
                    self.assertIn(ast.unparse(right), ["None", "True", "False"], (name, node.lineno))

    def test_l27_strings(self):
        for name, node in nodes(ast.Constant):
            if isinstance(node.value, str):
                self.assertNotIn("%", node.value, (name, node.lineno))
                self.assertFalse(re.search(r"\._{1,2}$", node.value), (name, node.lineno))


if __name__ == "__main__":
    unittest.main()
