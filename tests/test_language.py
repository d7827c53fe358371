"""The rules of ../shared/LANGUAGE.md that can be seen in the text of the package.

The number behind each test's name is the rule's; what is not looked at here is still required.
"""

import ast
import builtins
import re
import unittest
import warnings
from pathlib import Path

PACKAGE = Path(__file__).resolve().parent.parent / "standsellers"

BUILTINS = """len range enumerate zip min max sum abs sorted reversed int str bool bytes list tuple dict set
frozenset isinstance ord repr any all divmod Exception ValueError TypeError KeyError IndexError LookupError
ZeroDivisionError ArithmeticError OverflowError RuntimeError NotImplementedError AttributeError StopIteration
NotImplemented""".split()

METHODS = """append clear copy count endswith extend find get index insert isalnum isalpha isdigit islower isspace
isupper items join keys ljust lower lstrip partition pop remove replace reverse rfind rjust rpartition rsplit rstrip
setdefault split splitlines startswith strip update upper values zfill bit_length title capitalize swapcase casefold
center expandtabs removeprefix removesuffix rindex isascii isdecimal isnumeric istitle isidentifier isprintable
translate sort add discard""".split()

ITERATED = "zip enumerate reversed range items keys values".split()

ITERATING = "list tuple dict sorted sum any all enumerate zip bytes min max".split()

BARRED_WORDS = """type typing typing_extensions enum Enum IntEnum StrEnum Flag IntFlag Generic Protocol ABC ABCMeta
namedtuple NamedTuple TypedDict TYPE_CHECKING abstractmethod""".split()

STATEMENTS = (ast.FunctionDef, ast.ClassDef, ast.Return, ast.Delete, ast.Assign, ast.AugAssign, ast.AnnAssign,
              ast.For, ast.While, ast.If, ast.With, ast.Match, ast.Raise, ast.Try, ast.Assert, ast.ImportFrom,
              ast.Nonlocal, ast.Expr, ast.Pass, ast.Break, ast.Continue)


def files():
    return sorted(path for path in PACKAGE.rglob("*") if path.is_file() and "__pycache__" not in path.parts)


def parsed():
    return [(path.name, ast.parse(path.read_text())) for path in files()]


def nodes(kind):
    return [(name, node) for name, tree in parsed() for node in ast.walk(tree) if isinstance(node, kind)]


def called_name(node):
    """The name of the function or method that is called."""
    return getattr(node.func, "attr", getattr(node.func, "id", None))


def bound_names():
    """Every name that the package gives to something, with the file it stands in."""
    told = [(name, node.id) for name, node in nodes(ast.Name) if not isinstance(node.ctx, ast.Load)]
    told += [(name, node.name) for name, node in nodes((ast.FunctionDef, ast.ClassDef))]
    told += [(name, node.arg) for name, node in nodes(ast.arg)]
    return told


class Language(unittest.TestCase):

    def test_files_l1_l14(self):
        for path in files():
            self.assertRegex(path.name, r"\A(__init__|[a-z][a-z0-9_]*)\.py\Z")
        self.assertIn("__init__.py", [path.name for path in files()])

    def test_characters_and_sizes_l10_l14(self):
        for path in files():
            text = path.read_text()
            self.assertRegex(text, r"\A[ -~\n]*\Z", path.name)
            self.assertLessEqual(len(text.splitlines()), 400, path.name)
            self.assertLessEqual(max(map(len, text.splitlines())), 120, path.name)

    def test_functions_l4_l10(self):
        for name, node in nodes(ast.FunctionDef):
            self.assertLessEqual(node.end_lineno - node.lineno + 1, 40, f"{name}: {node.name}")
            self.assertEqual(node.args.posonlyargs, [], f"{name}: {node.name}")

    def test_imports_l2_l16(self):
        own = [path.stem for path in files()]
        self.assertEqual(nodes(ast.Import), [])
        for name, node in nodes(ast.ImportFrom):
            package, dot, module = (node.module or "").partition(".")
            self.assertEqual((node.level, package, dot), (0, "standsellers", "."), name)
            self.assertIn(module, own, name)
            defined = [made.name for made in ast.parse((PACKAGE / f"{module}.py").read_text()).body
                       if isinstance(made, (ast.FunctionDef, ast.ClassDef))]
            for alias in node.names:
                self.assertIn(alias.name, defined, name)

    def test_no_two_files_import_from_each_other_l16(self):
        behind = {name: {node.module.partition(".")[2] + ".py" for node in tree.body if isinstance(node, ast.ImportFrom)}
                  for name, tree in parsed()}
        for round_again in behind:
            behind = {name: far.union(*[behind[other] for other in far]) for name, far in behind.items()}
        for name, far in behind.items():
            self.assertNotIn(name, far)

    def test_module_level_l3_l15(self):
        allowed = (ast.ImportFrom, ast.FunctionDef, ast.ClassDef, ast.Assign)
        for name, tree in parsed():
            body = tree.body[1:] if ast.get_docstring(tree) is not None else tree.body
            for node in body:
                self.assertIsInstance(node, allowed, f"{name}:{node.lineno}")
            made = [node.name for node in body if isinstance(node, (ast.FunctionDef, ast.ClassDef))]
            made += [alias.name for node in body if isinstance(node, ast.ImportFrom) for alias in node.names]
            made += [target.id for node in body if isinstance(node, ast.Assign) for target in node.targets]
            self.assertEqual(len(made), len(set(made)), name)

    def test_lists_at_module_level_hold_no_lists_l15(self):
        for name, tree in parsed():
            for node in tree.body:
                if isinstance(node, ast.Assign) and isinstance(node.value, (ast.List, ast.Dict)):
                    inner = [part for part in ast.walk(node.value) if isinstance(part, (ast.List, ast.Dict))]
                    self.assertEqual(inner, [node.value], f"{name}:{node.lineno}")

    def test_methods_and_attributes_l18(self):
        methods = [part.name for name, node in nodes(ast.ClassDef) for part in node.body
                   if isinstance(part, ast.FunctionDef)]
        assigned = [node.attr for name, node in nodes(ast.Attribute) if isinstance(node.ctx, ast.Store)]
        for attribute in assigned:
            self.assertNotIn(attribute, methods)
        for name, node in nodes(ast.Attribute):
            if isinstance(node.ctx, ast.Load) and node.attr not in METHODS:
                self.assertIn(node.attr, methods + assigned, f"{name}:{node.lineno}")

    def test_lambdas_l13(self):
        rows = [(name, node.lineno) for name, node in nodes(ast.Lambda)]
        self.assertEqual(len(rows), len(set(rows)))

    def test_statements_l6(self):
        for name, node in nodes(ast.stmt):
            self.assertIsInstance(node, STATEMENTS, f"{name}:{node.lineno}")

    def test_no_fractions_l7(self):
        for name, node in nodes(ast.Constant):
            self.assertNotIsInstance(node.value, (float, complex), f"{name}:{node.lineno}")
        for name, node in nodes((ast.Div, ast.MatMult)):
            self.fail(name)

    def test_builtins_l8(self):
        for name, node in nodes(ast.Name):
            if node.id in dir(builtins):
                self.assertIn(node.id, BUILTINS, f"{name}:{node.lineno}")

    def test_names_l12_l15(self):
        for name, bound in bound_names():
            self.assertRegex(bound, r"\A([A-Za-z][A-Za-z0-9_]*|__init__)\Z", name)
            self.assertNotIn(bound, dir(builtins), name)

    def test_no_local_has_the_name_of_an_import_or_a_class_l15(self):
        for name, tree in parsed():
            taken = [alias.name for node in tree.body if isinstance(node, ast.ImportFrom) for alias in node.names]
            taken += [node.name for node in tree.body if isinstance(node, ast.ClassDef)]
            for node in ast.walk(tree):
                if isinstance(node, ast.Name) and not isinstance(node.ctx, ast.Load):
                    self.assertNotIn(node.id, taken, f"{name}:{node.lineno}")
                if isinstance(node, ast.arg):
                    self.assertNotIn(node.arg, taken, f"{name}:{node.lineno}")

    def test_barred_words_l17(self):
        for path in files():
            words = re.findall(r"[A-Za-z_0-9]+", path.read_text())
            for word in BARRED_WORDS:
                self.assertNotIn(word, words, path.name)
            for part in ("dataclass", "overload", "contextmanager"):
                self.assertNotIn(part, path.read_text(), path.name)

    def test_is_l20(self):
        for name, node in nodes(ast.Compare):
            for operator, right in zip(node.ops, node.comparators):
                if isinstance(operator, (ast.Is, ast.IsNot)):
                    self.assertIn(repr(getattr(right, "value", right)), ("None", "True", "False"), name)

    def test_iterated_at_once_l23(self):
        for name, tree in parsed():
            spots = [node.iter for node in ast.walk(tree) if isinstance(node, (ast.For, ast.comprehension))]
            spots += [node.args[0] for node in ast.walk(tree) if isinstance(node, ast.Call) and node.args
                      and isinstance(node.func, ast.Name) and node.func.id in ITERATING]
            for node in ast.walk(tree):
                if isinstance(node, ast.Call) and called_name(node) in ITERATED:
                    self.assertIn(node, spots, f"{name}:{node.lineno}")

    def test_methods_l25(self):
        own = [node.name for name, node in nodes(ast.FunctionDef)]
        for name, node in nodes(ast.Call):
            if isinstance(node.func, ast.Attribute):
                self.assertIn(node.func.attr, METHODS + own, f"{name}:{node.lineno}")

    def test_strings_and_powers_l27(self):
        for name, node in nodes(ast.Constant):
            if isinstance(node.value, str):
                self.assertNotIn("%", node.value, f"{name}:{node.lineno}")
        for name, node in nodes(ast.BinOp):
            if isinstance(node.op, ast.Pow):
                self.assertIsInstance(node.right, ast.Constant, f"{name}:{node.lineno}")

    def test_no_warning_l27(self):
        with warnings.catch_warnings():
            warnings.simplefilter("error")
            for path in files():
                compile(path.read_text(), path.name, "exec")


if __name__ == "__main__":
    unittest.main()
