"""Whether the package's files keep to the part of Python that the program is written in.

Many of the rules L1 to L28 are looked at here, not all: what L15, L19, L23 and L28 say of lists kept at a file's top,
of what stands in a try, of lists changed while walked and of methods with two underscores is not, or only in part. A
file that passes may still break these.
"""

import ast
import builtins
import pathlib
import re
import unittest

PACKAGE = pathlib.Path(__file__).resolve().parent.parent / "stairsay"
FILES = {path.stem: path.read_text(encoding="utf-8") for path in sorted(PACKAGE.glob("*.py"))}
TREES = {name: ast.parse(text) for name, text in FILES.items()}

NODES = """Module FunctionDef Lambda arguments arg ClassDef ImportFrom alias Assign AugAssign If While For Return Break
Continue Pass Raise Try ExceptHandler Expr Constant Name Load Store List Tuple Dict Set BinOp UnaryOp BoolOp Compare
IfExp Call keyword Attribute Subscript Slice ListComp comprehension JoinedStr FormattedValue Add Sub Mult FloorDiv Mod
Pow BitAnd BitOr BitXor LShift RShift Invert USub UAdd Not And Or Eq NotEq Lt LtE Gt GtE In NotIn Is IsNot""".split()
OWN_NAMES = """len range enumerate zip min max sum abs sorted reversed int str bool list tuple dict set frozenset
isinstance ord repr any all divmod Exception ValueError TypeError KeyError IndexError LookupError ZeroDivisionError
ArithmeticError OverflowError RuntimeError NotImplementedError AttributeError StopIteration""".split()
METHODS = """append clear copy count endswith extend find get index insert isalnum isalpha isdigit islower isspace
isupper items join keys ljust lower lstrip partition pop remove replace reverse rfind rjust rpartition rsplit rstrip setdefault
split splitlines startswith strip update upper values zfill bit_length""".split()
UNDERSCORED = "__init__ __eq__ __repr__ __str__ __len__".split()
WORDS = """type typing typing_extensions enum Enum IntEnum StrEnum Flag IntFlag Generic Protocol ABC ABCMeta namedtuple
NamedTuple TypedDict TYPE_CHECKING abstractmethod""".split()
UNUSED = """register mro elements open input version_info with_traceback add_note format format_map attrgetter
breakpoint builtins compile copyright credits delattr dir eval exec exit gc getattr globals hasattr help id importlib
license locals methodcaller os quit setattr super sys type vars""".split()
WALKED = ("zip", "enumerate", "reversed", "range", "items", "keys", "values")
VALUES_NOT_USED = """items keys values pop update append clear extend insert remove reverse setdefault sort args encode
format""".split()


def nodes(*classes):
    return [(name, node) for name, tree in TREES.items() for node in ast.walk(tree) if isinstance(node, classes)]


def where(name, node):
    return f"{name}.py line {node.lineno}"


def parents(tree):
    return {child: node for node in ast.walk(tree) for child in ast.iter_child_nodes(node)}


def top_names(tree):
    found = []
    for node in tree.body:
        if isinstance(node, (ast.FunctionDef, ast.ClassDef)):
            found.append(node.name)
        elif isinstance(node, ast.Assign):
            found.extend(target.id for target in node.targets)
        elif isinstance(node, ast.ImportFrom):
            found.extend(alias.asname or alias.name for alias in node.names)
    return found


def drawn_from(tree):
    return [node.module.partition(".")[2] for node in ast.walk(tree) if isinstance(node, ast.ImportFrom)]


class TestText(unittest.TestCase):
    def test_files(self):
        for path in PACKAGE.iterdir():
            if path.name != "__pycache__":
                self.assertRegex(path.name, r"^([a-z][a-z0-9_]*|__init__|__main__)\.py$")
                self.assertNotIn(path.stem, dir(builtins) + WORDS)
                self.assertNotRegex(path.stem, r"^(tests?|testing|test_.*|site|conftest|sitecustomize|usercustomize)$")
        self.assertIn("__init__", FILES)

    def test_signs_and_sizes(self):
        for name, text in FILES.items():
            self.assertRegex(text, r"\A[\n -~]*\n\Z", name)
            self.assertLessEqual(len(text.splitlines()), 400, name)
            self.assertLessEqual(max(len(row) for row in text.splitlines()), 120, name)
        for name, node in nodes(ast.FunctionDef):
            self.assertLessEqual(node.end_lineno - node.lineno + 1, 40, where(name, node))

    def test_words(self):
        for name, text in FILES.items():
            self.assertEqual([word for word in re.findall(r"\w+", text) if word in WORDS], [], name)
            self.assertNotRegex(text, "dataclass|overload|contextmanager", name)

    def test_texts_and_numbers(self):
        for name, node in nodes(ast.Constant):
            self.assertIn(node.value.__class__, (int, str, bool, None.__class__), where(name, node))
            self.assertNotIn("%", str(node.value), where(name, node))
        for name, text in FILES.items():
            self.assertNotRegex(text, r"\\[^nt\\'\"]", name)


class TestForms(unittest.TestCase):
    def test_nodes(self):
        for name, tree in TREES.items():
            for node in ast.walk(tree):
                self.assertIn(node.__class__.__name__, NODES, f"{name}.py {ast.dump(node)[:100]}")

    def test_tops(self):
        for name, tree in TREES.items():
            self.assertIsNotNone(ast.get_docstring(tree), name)
            for node in tree.body[1:]:
                allowed = (ast.ImportFrom, ast.FunctionDef, ast.ClassDef, ast.Assign)
                self.assertIsInstance(node, allowed, where(name, node))
            self.assertEqual(len(top_names(tree)), len(set(top_names(tree))), name)

    def test_imports(self):
        for name, tree in TREES.items():
            for node in [node for node in ast.walk(tree) if isinstance(node, ast.ImportFrom)]:
                self.assertIn(node, tree.body)
                self.assertEqual((node.level, node.module.partition(".")[0]), (0, "stairsay"), where(name, node))
                source = TREES[node.module.partition(".")[2]]
                imported = [alias.name for other in source.body if isinstance(other, ast.ImportFrom)
                            for alias in other.names]
                for alias in node.names:
                    self.assertIn(alias.name, set(top_names(source)) - set(imported), where(name, node))

    def test_no_two_files_draw_from_one_another(self):
        left = {name: set(drawn_from(tree)) for name, tree in TREES.items()}
        while left:
            free = [name for name, sources in left.items() if not sources & set(left)]
            self.assertNotEqual(free, [], f"these draw from one another: {sorted(left)}")
            left = {name: sources for name, sources in left.items() if name not in free}

    def test_functions(self):
        for name, node in nodes(ast.FunctionDef, ast.ClassDef):
            self.assertEqual(node.decorator_list, [], where(name, node))
        for name, node in nodes(ast.arguments):
            self.assertEqual((node.vararg, node.kwarg, node.kwonlyargs, node.posonlyargs), (None, None, [], []), name)

    def test_classes(self):
        for name, node in nodes(ast.ClassDef):
            self.assertIn(node, TREES[name].body, where(name, node))
            self.assertLessEqual(len(node.bases), 1, where(name, node))
            for part in node.body:
                self.assertIsInstance(part, (ast.FunctionDef, ast.Pass), where(name, part))
            methods = [part.name for part in node.body if isinstance(part, ast.FunctionDef)]
            self.assertEqual(len(methods), len(set(methods)), where(name, node))

    def test_methods_and_values_have_names_of_their_own(self):
        methods = {part.name for name, node in nodes(ast.ClassDef) for part in node.body
                   if isinstance(part, ast.FunctionDef)}
        values = {node.attr for name, node in nodes(ast.Attribute) if isinstance(node.ctx, ast.Store)}
        self.assertEqual(methods & values, set())
        self.assertEqual(values & set(VALUES_NOT_USED), set())
        for name, node in nodes(ast.Call):
            if isinstance(node.func, ast.Attribute):
                self.assertIn(node.func.attr, set(METHODS) | methods, where(name, node))

    def test_methods_are_called_where_they_stand(self):
        values = {node.attr for name, node in nodes(ast.Attribute) if isinstance(node.ctx, ast.Store)}
        for name, tree in TREES.items():
            parent = parents(tree)
            for node in ast.walk(tree):
                if isinstance(node, ast.Attribute) and node.attr not in values:
                    self.assertTrue(isinstance(parent[node], ast.Call) and parent[node].func == node,
                                    where(name, node))

    def test_assignments(self):
        for name, node in nodes(ast.Assign):
            self.assertEqual(len(node.targets), 1, where(name, node))
        for name, node in nodes(ast.For, ast.While):
            self.assertEqual(node.orelse, [], where(name, node))
        for name, node in nodes(ast.Try):
            self.assertEqual(node.finalbody, [], where(name, node))
        for name, node in nodes(ast.ListComp):
            self.assertEqual(len(node.generators), 1, where(name, node))
            self.assertLessEqual(len(node.generators[0].ifs), 1, where(name, node))

    def test_texts_with_braces_hold_plain_names(self):
        for name, node in nodes(ast.FormattedValue):
            self.assertIsInstance(node.value, ast.Name, where(name, node))
            self.assertIsNone(node.format_spec, where(name, node))
            self.assertIn(node.conversion, (-1, ord("r")), where(name, node))

    def test_keywords(self):
        allowed = {"sorted": ("key", "reverse"), "min": ("key", "default"), "max": ("key", "default"),
                   "sum": ("start",), "enumerate": ("start",), "zip": ("strict",)}
        for name, node in nodes(ast.Call):
            for keyword in node.keywords:
                self.assertIn(keyword.arg, allowed.get(ast.unparse(node.func), ()), where(name, node))

    def test_powers_are_written_out(self):
        for name, node in nodes(ast.BinOp):
            if isinstance(node.op, ast.Pow):
                self.assertIn(ast.unparse(node.right), [str(k) for k in range(65)], where(name, node))

    def test_pythons_own_are_called_where_they_stand(self):
        kept = [part for part in OWN_NAMES if part[0].islower()]
        for name, tree in TREES.items():
            parent = parents(tree)
            for node in ast.walk(tree):
                if isinstance(node, ast.Name) and node.id in kept:
                    above = parent[node]
                    by_isinstance = isinstance(above, (ast.Tuple, ast.Call)) and node.id in (
                        "int", "str", "bool", "list", "tuple", "dict")
                    as_key = isinstance(above, ast.keyword) and above.arg == "key"
                    called = isinstance(above, ast.Call) and above.func == node
                    self.assertTrue(called or as_key or by_isinstance, where(name, node))

    def test_is_stands_beside_none_true_and_false(self):
        for name, node in nodes(ast.Compare):
            for operator, side in zip(node.ops, node.comparators):
                if isinstance(operator, (ast.Is, ast.IsNot)):
                    self.assertIn(ast.unparse(side), ("None", "True", "False"), where(name, node))

    def test_errors_taken(self):
        own = [part.name for name, tree in TREES.items() for part in tree.body if isinstance(part, ast.ClassDef)]
        for name, node in nodes(ast.ExceptHandler):
            taken = node.type.elts if isinstance(node.type, ast.Tuple) else [node.type]
            for each in taken:
                allowed = own + ["KeyError", "ZeroDivisionError", "StopIteration", "ValueError", "LookupError",
                                 "IndexError"]
                self.assertIn(each.id, allowed, where(name, node))

    def test_walked_on_the_spot(self):
        takers = ("list", "tuple", "dict", "sorted", "sum", "any", "all", "enumerate", "zip", "min", "max")
        for name, tree in TREES.items():
            parent = parents(tree)
            for node in ast.walk(tree):
                if isinstance(node, ast.Call) and ast.unparse(node.func).rpartition(".")[2] in WALKED:
                    above = parent[node]
                    walked = isinstance(above, (ast.For, ast.comprehension)) and above.iter == node
                    taken = isinstance(above, ast.Call) and (ast.unparse(above.func) in takers
                                                             or ast.unparse(above.func).endswith(".join"))
                    self.assertTrue(walked or taken, where(name, node))


class TestNames(unittest.TestCase):
    def test_plain_words(self):
        for name, node in nodes(ast.Name, ast.FunctionDef, ast.ClassDef, ast.arg, ast.Attribute):
            word = next(getattr(node, part) for part in ("id", "name", "arg", "attr") if hasattr(node, part))
            if word not in UNDERSCORED:
                self.assertRegex(word, r"^[A-Za-z][A-Za-z0-9_]*$", where(name, node))
            self.assertNotIn(word, UNUSED, where(name, node))

    def test_names_of_pythons_own(self):
        for name, node in nodes(ast.Name):
            if hasattr(builtins, node.id):
                self.assertIn(node.id, OWN_NAMES, where(name, node))
                self.assertIsInstance(node.ctx, ast.Load, where(name, node))
        for name, node in nodes(ast.arg):
            self.assertFalse(hasattr(builtins, node.arg), where(name, node))

    def test_locals_hide_nothing(self):
        for name, tree in TREES.items():
            tops = top_names(tree)
            stored = [node.id for function in ast.walk(tree) if isinstance(function, ast.FunctionDef)
                      for node in ast.walk(function) if isinstance(node, ast.Name) and isinstance(node.ctx, ast.Store)]
            stored += [node.arg for node in ast.walk(tree) if isinstance(node, ast.arg)]
            self.assertEqual(set(stored) & set(tops), set(), name)

    def test_sets_are_not_kept(self):
        for name, node in nodes(ast.Call):
            if ast.unparse(node.func) in ("set", "frozenset"):
                above = parents(TREES[name]).get(node)
                self.assertIsInstance(above, (ast.Compare, ast.Call, ast.BinOp), where(name, node))


if __name__ == "__main__":
    unittest.main()
