"""The package keeps to its part of Python: those rules of LANGUAGE.md that can be seen in the text."""

import ast
import builtins
import os
import re
import unittest

import speakmill

FOLDER = os.path.dirname(speakmill.__file__)

STATEMENTS = (ast.Assign, ast.AugAssign, ast.If, ast.While, ast.For, ast.Return, ast.Break, ast.Continue, ast.Pass,
              ast.Raise, ast.Try, ast.Expr, ast.FunctionDef, ast.ClassDef, ast.ImportFrom)
EXPRESSIONS = (ast.Constant, ast.List, ast.Tuple, ast.Dict, ast.Set, ast.BinOp, ast.UnaryOp, ast.BoolOp, ast.Compare,
               ast.IfExp, ast.Call, ast.Attribute, ast.Subscript, ast.Slice, ast.ListComp, ast.JoinedStr,
               ast.FormattedValue, ast.Name, ast.Lambda)
OWN_OF_PYTHON = set("""len range enumerate zip min max sum abs sorted reversed int str bool list tuple dict set frozenset
    isinstance ord repr any all divmod Exception ValueError TypeError KeyError IndexError LookupError ZeroDivisionError
    ArithmeticError OverflowError RuntimeError NotImplementedError AttributeError StopIteration""".split())
METHODS = set("""append clear copy count endswith extend find get index insert isalnum isalpha isdigit islower isspace
    isupper items join keys ljust lower lstrip partition pop remove replace reverse rfind rjust rpartition rsplit rstrip
    setdefault split splitlines startswith strip update upper values zfill bit_length""".split())
UNUSED = set("""register mro elements open input version_info with_traceback add_note attrgetter breakpoint builtins
    compile copyright credits delattr dir eval exec exit gc getattr globals hasattr help id importlib license locals
    methodcaller os quit setattr super vars sys chr format format_map print""".split())
WORDS_NOWHERE = re.compile(r"\b(type|typing|typing_extensions|enum|Enum|IntEnum|StrEnum|Flag|IntFlag|Generic|Protocol"
                           r"|ABC|ABCMeta|namedtuple|NamedTuple|TypedDict|TYPE_CHECKING|abstractmethod)\b"
                           r"|dataclass|overload|contextmanager")
PLAIN_NAME = re.compile(r"[A-Za-z][A-Za-z0-9_]*")


def read_files():
    found = {}
    for name in sorted(os.listdir(FOLDER)):
        if name != "__pycache__":
            with open(os.path.join(FOLDER, name), encoding="utf-8", newline="") as file:
                found[name] = file.read()
    return found


TEXTS = read_files()
TREES = {name: ast.parse(text) for name, text in TEXTS.items()}


def nodes(kinds):
    return [(name, node) for name, tree in TREES.items() for node in ast.walk(tree) if isinstance(node, kinds)]


def is_docstring(node, tree):
    return node is tree.body[0] and isinstance(node, ast.Expr) and isinstance(node.value, ast.Constant)


def defined(tree):
    found = []
    for node in tree.body:
        if isinstance(node, (ast.FunctionDef, ast.ClassDef)):
            found.append(node.name)
        if isinstance(node, ast.Assign):
            found.append(node.targets[0].id)
    return found


def drawn(tree):
    return [node.module.split(".")[1] + ".py" for node in tree.body if isinstance(node, ast.ImportFrom)]


class LanguageTest(unittest.TestCase):
    def each(self, kinds, holds):
        for name, node in nodes(kinds):
            self.assertTrue(holds(node), msg=f"{name}, line {getattr(node, 'lineno', 0)}")

    def test_files(self):
        self.assertIn("__init__.py", TEXTS)
        for name, text in TEXTS.items():
            self.assertRegex(name, r"\A(__init__|__main__|[a-z][a-z0-9_]*)\.py\Z")
            self.assertNotIn(name[:-3], dir(builtins))
            self.assertRegex(text, r"\A[ -~\n]*\Z", msg=name)
            self.assertIsNone(WORDS_NOWHERE.search(text), msg=name)
            lines = text.split("\n")
            self.assertLessEqual(len(lines), 400, msg=name)
            self.assertLessEqual(max(len(line) for line in lines), 120, msg=name)

    def test_imports(self):
        for name, node in nodes((ast.Import, ast.ImportFrom)):
            self.assertIsInstance(node, ast.ImportFrom, msg=name)
            self.assertIn(node, TREES[name].body, msg=name)
            self.assertRegex(node.module, r"\Aspeakmill\.[a-z_]+\Z")
            for alias in node.names:
                self.assertIn(alias.name, defined(TREES[node.module.split(".")[1] + ".py"]), msg=name)
        for name in TREES:
            reached = []
            waiting = drawn(TREES[name])
            while waiting:
                one = waiting.pop()
                if one not in reached:
                    reached.append(one)
                    waiting.extend(drawn(TREES[one]))
            self.assertNotIn(name, reached)
        self.assertEqual(drawn(TREES["__init__.py"]), [])

    def test_tops(self):
        for name, tree in TREES.items():
            for node in tree.body:
                plain = (ast.ImportFrom, ast.FunctionDef, ast.ClassDef, ast.Assign)
                self.assertTrue(isinstance(node, plain) or is_docstring(node, tree), msg=(name, node.lineno))
            bound = defined(tree)
            self.assertEqual(len(bound), len(set(bound)), msg=name)

    def test_statements(self):
        self.each(ast.stmt, lambda node: isinstance(node, STATEMENTS))
        self.each(ast.Assign, lambda node: len(node.targets) == 1
                  and isinstance(node.targets[0], (ast.Name, ast.Attribute, ast.Subscript)))
        self.each((ast.For, ast.While), lambda node: not node.orelse)
        self.each(ast.Try, lambda node: not node.finalbody and all(one.type for one in node.handlers))
        for name, node in nodes(ast.Expr):
            self.assertTrue(isinstance(node.value, ast.Call) or is_docstring(node, TREES[name]), msg=name)

    def test_functions_and_classes(self):
        self.each((ast.FunctionDef, ast.ClassDef), lambda node: not node.decorator_list)
        self.each(ast.FunctionDef, lambda node: node.end_lineno - node.lineno < 40)
        self.each(ast.arguments, lambda node: not (node.vararg or node.kwarg or node.kwonlyargs or node.posonlyargs))
        self.each(ast.ClassDef, lambda node: len(node.bases) <= 1 and not node.keywords
                  and all(isinstance(one, (ast.FunctionDef, ast.Pass)) for one in node.body))

    def test_expressions(self):
        self.each(ast.expr, lambda node: isinstance(node, EXPRESSIONS))
        self.each(ast.BinOp, lambda node: not isinstance(node.op, (ast.Div, ast.MatMult)))
        self.each(ast.AugAssign, lambda node: not isinstance(node.op, (ast.Div, ast.MatMult)))
        self.each(ast.Constant, lambda node: node.value is None or isinstance(node.value, (int, str)))
        self.each(ast.Constant, lambda node: not isinstance(node.value, str) or "%" not in node.value)
        self.each(ast.ListComp, lambda node: len(node.generators) == 1 and len(node.generators[0].ifs) <= 1)
        self.each(ast.FormattedValue, lambda node: isinstance(node.value, ast.Name) and node.format_spec is None)
        self.each(ast.Compare, lambda node: not any(isinstance(one, (ast.Is, ast.IsNot)) for one in node.ops)
                  or isinstance(node.comparators[0], ast.Constant))

    def test_names(self):
        given = [node.arg for name, node in nodes(ast.arg)] + [node.name for name, node in nodes(ast.ClassDef)]
        for name, node in nodes(ast.Name):
            if isinstance(node.ctx, ast.Load):
                self.assertTrue(node.id in OWN_OF_PYTHON or node.id not in dir(builtins), msg=(name, node.id))
            else:
                given.append(node.id)
        for one in given:
            self.assertRegex(one, PLAIN_NAME)
            self.assertNotIn(one, dir(builtins))
            self.assertNotIn(one, UNUSED)

    def test_no_name_is_called_like_an_import_or_class_of_its_file(self):
        for name, tree in TREES.items():
            taken = [alias.name for node in tree.body if isinstance(node, ast.ImportFrom) for alias in node.names]
            taken += [node.name for node in tree.body if isinstance(node, ast.ClassDef)]
            for node in ast.walk(tree):
                if isinstance(node, ast.arg):
                    self.assertNotIn(node.arg, taken, msg=name)
                if isinstance(node, ast.Name) and isinstance(node.ctx, ast.Store):
                    self.assertNotIn(node.id, taken, msg=name)

    def test_methods_and_values(self):
        methods = [one.name for name, node in nodes(ast.ClassDef) for one in node.body
                   if isinstance(one, ast.FunctionDef)]
        values = [node.attr for name, node in nodes(ast.Attribute) if isinstance(node.ctx, ast.Store)]
        self.assertEqual(set(methods) & set(values), set())
        for one in methods + values:
            self.assertTrue(one == "__init__" or PLAIN_NAME.fullmatch(one), msg=one)
            self.assertNotIn(one, UNUSED)
        for name, node in nodes(ast.Call):
            if isinstance(node.func, ast.Attribute):
                self.assertIn(node.func.attr, METHODS | set(methods), msg=(name, node.lineno))


if __name__ == "__main__":
    unittest.main()
