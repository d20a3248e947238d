"""The files of the package keep the rules of the language subset, as far as a short look can tell."""

import ast
import builtins
import io
import re
import tokenize
import unittest
from pathlib import Path

PACKAGE = Path(__file__).resolve().parent.parent / "ownanswer"
FILES = sorted(PACKAGE.glob("*.py"))

BUILTINS = set(
    "len range enumerate zip min max sum abs sorted reversed int str bool list tuple dict set isinstance ord repr any all divmod "
    "ValueError property".split())
METHODS = set(
    "append clear copy count endswith extend find get index insert isalnum isalpha isdigit islower isspace isupper items join keys "
    "ljust lower lstrip partition pop remove replace reverse rfind rjust rpartition rsplit rstrip setdefault split splitlines "
    "startswith strip update upper values zfill bit_length".split())
BARRED_NAMES = set(
    "register mro elements open input law version_info with_traceback add_note attrgetter breakpoint builtins compile copyright "
    "delattr dir eval exec exit gc getattr globals hasattr help id importlib license locals methodcaller os quit setattr super "
    "type vars sys __name__ format".split())
BARRED_WORDS = re.compile(
    r"\b(typing|typing_extensions|enum|Enum|IntEnum|StrEnum|Flag|IntFlag|Generic|Protocol|ABC|ABCMeta|namedtuple|NamedTuple|"
    r"TypedDict|TYPE_CHECKING|abstractmethod)\b|dataclass|overload|contextmanager|_wall")
BARRED_NODES = (
    ast.Lambda, ast.Global, ast.AsyncFunctionDef, ast.Await, ast.YieldFrom, ast.Set, ast.SetComp, ast.GeneratorExp,
    ast.AnnAssign, ast.With, ast.TryStar, ast.Match, ast.NamedExpr, ast.Import, ast.Starred, ast.Div, ast.Nonlocal)
PLAIN = (ast.Constant, ast.Tuple, ast.Dict, ast.Load)


def annotation_places(tree):
    """Where the strings in annotations stand."""
    notes = [node.annotation for node in ast.walk(tree) if isinstance(node, (ast.AnnAssign, ast.arg))]
    notes += [node.returns for node in ast.walk(tree) if isinstance(node, ast.FunctionDef)]
    return {(part.lineno, part.col_offset) for note in notes if note is not None for part in ast.walk(note) if isinstance(part, ast.Constant)}


def words_outside_of_plain_strings(text):
    """The rows where the word `type` stands outside of comments and of strings that are no annotation, no bytes and no f-string."""
    found = []
    annotated = annotation_places(ast.parse(text))
    plain = re.compile("^[uUrR]*[\"']")
    for token in tokenize.generate_tokens(io.StringIO(text).readline):
        is_plain = token.type == tokenize.STRING and plain.match(token.string) and token.start not in annotated
        if token.type != tokenize.COMMENT and not is_plain and re.search(r"\btype\b", token.string):
            found.append(token.start[0])
    return found


class LanguageTest(unittest.TestCase):
    def each(self):
        for path in FILES:
            text = path.read_text()
            yield path.name, text, ast.parse(text)

    def test_the_package_is_one_folder(self):
        others = [path.name for path in PACKAGE.iterdir() if path.suffix != ".py" and path.name != "__pycache__"]
        self.assertEqual(others, [])
        self.assertIn(PACKAGE / "__init__.py", FILES)
        for path in FILES:
            self.assertRegex(path.stem, "^[a-z0-9_]+$")

    def test_sizes_and_characters(self):
        for name, text, tree in self.each():
            rows = text.split("\n")
            self.assertLessEqual(len(rows), 399, name)
            for row in rows:
                self.assertLessEqual(len(row), 120, (name, row))
                self.assertRegex(row, "^[ -~]*$", name)
            for node in ast.walk(tree):
                if isinstance(node, ast.FunctionDef):
                    self.assertLessEqual(node.end_lineno - node.lineno + 1, 40, (name, node.name))

    def test_strings(self):
        kinds = {tokenize.STRING, getattr(tokenize, "FSTRING_MIDDLE", tokenize.STRING)}
        for name, text, _ in self.each():
            for token in tokenize.generate_tokens(io.StringIO(text).readline):
                if token.type in kinds:
                    self.assertNotIn("%", token.string, (name, token.start))
                    self.assertNotRegex(token.string.replace("\\\\", ""), r"\\[^nt\"']", (name, token.start))
                    self.assertNotRegex(token.string, r"\._{1,2}[\"']$", (name, token.start))

    def test_the_word_that_plain_strings_alone_have(self):
        for name, text, _ in self.each():
            self.assertEqual(words_outside_of_plain_strings(text), [], name)

    def test_how_this_word_is_found(self):
        for text, rows in (
            ('x = "content-type"\n', []), ("# a type\nx = 'type'\n", []), ('"""A type."""\nx = ("the type",)\n', []), ("types = 1\n", []),
            ('x = f"content-type: {kind}"\n', [1]), ("\nx = f'type'\n", [2]), ('x = F"{kind} type"\n', [1]), ('x = f"{k}" "type"\n', []),
            ('x = "a" f"type {k}"\n', [1]), ("type = 1\n", [1]), ("x = box.type\n", [1]), ('x = b"type"\n', [1]), ("x = f\"{type}\"\n", [1]),
            ('x: "type" = 1\n', [1]), ('def f(a: "type"):\n    pass\n', [1]), ("def f(type):\n    pass\n", [1]),
        ):
            self.assertEqual(words_outside_of_plain_strings(text), rows, text)

    def test_words_that_are_not_used(self):
        for name, text, _ in self.each():
            self.assertNotRegex(text, BARRED_WORDS, name)

    def test_module_level(self):
        for name, _, tree in self.each():
            bound = []
            functions = []
            for at, node in enumerate(tree.body):
                if isinstance(node, ast.Expr):
                    self.assertTrue(at == 0 and isinstance(node.value.value, str), name)
                elif isinstance(node, ast.ImportFrom):
                    bound += [alias.name for alias in node.names]
                elif isinstance(node, (ast.FunctionDef, ast.ClassDef)):
                    bound.append(node.name)
                    functions += [node.name] if isinstance(node, ast.FunctionDef) else []
                else:
                    self.assertIsInstance(node, ast.Assign, name)
                    bound.append(node.targets[0].id)
                    for part in ast.walk(node.value):
                        # A table may hold functions that are defined above it.
                        if not isinstance(part, ast.Name) or part.id not in functions:
                            self.assertIsInstance(part, PLAIN, (name, node.lineno))
            self.assertEqual(len(bound), len(set(bound)), name)

    def test_nodes(self):
        for name, _, tree in self.each():
            for node in ast.walk(tree):
                self.assertNotIsInstance(node, BARRED_NODES, (name, getattr(node, "lineno", 0)))
                if isinstance(node, ast.FunctionDef):
                    decorators = [decorator.id for decorator in node.decorator_list]
                    self.assertIn(decorators, ([], ["property"]), (name, node.name))
                    self.assertEqual(node.args.defaults, [])
                    self.assertIsNone(node.returns)
                if isinstance(node, ast.Compare):
                    for sign, other in zip(node.ops, node.comparators):
                        if isinstance(sign, (ast.Is, ast.IsNot)):
                            self.assertIsInstance(other, ast.Constant, (name, node.lineno))
                if isinstance(node, ast.Attribute) and not isinstance(node.ctx, ast.Load):
                    self.assertIsInstance(node.value, ast.Name, (name, node.lineno))
                if isinstance(node, ast.Try):
                    # Errors of the package alone are caught.
                    self.assertEqual([handler.type.id for handler in node.handlers], ["HeadFault"], (name, node.lineno))
                    self.assertEqual(node.finalbody, [])
                if isinstance(node, ast.Constant):
                    self.assertNotIsInstance(node.value, (float, bytes, complex))

    def test_generators(self):
        generators = set()
        plain = set()
        for name, _, tree in self.each():
            for node in [node for node in ast.walk(tree) if isinstance(node, ast.FunctionDef)]:
                yields = [part for part in ast.walk(node) if isinstance(part, ast.Yield)]
                rows = [part for part in ast.walk(node) if isinstance(part, ast.Expr) and isinstance(part.value, ast.Yield)]
                self.assertEqual(len(rows), len(yields), (name, node.name))
                (generators if yields else plain).add(node.name)
        self.assertEqual(generators & (plain | METHODS), set())
        self.assertFalse([word for word in generators if word.startswith("__")])
        for name, _, tree in self.each():
            nodes = list(ast.walk(tree))
            at_once = [node.iter for node in nodes if isinstance(node, ast.For)]
            at_once += [node.args[0] for node in nodes if isinstance(node, ast.Call) and getattr(node.func, "id", "") == "list"]
            for node in nodes:
                if isinstance(node, ast.Attribute) and node.attr in generators:
                    self.assertTrue(any(isinstance(call, ast.Call) and call.func is node for call in at_once), (name, node.lineno))

    def test_imports(self):
        defined = {}
        graph = {}
        for name, _, tree in self.each():
            module = "ownanswer." + name[:-3]
            defined[module] = {node.name for node in tree.body if isinstance(node, (ast.FunctionDef, ast.ClassDef))}
            defined[module] |= {node.targets[0].id for node in tree.body if isinstance(node, ast.Assign)}
            graph[module] = [node for node in ast.walk(tree) if isinstance(node, ast.ImportFrom)]
        for module, nodes in graph.items():
            for node in nodes:
                self.assertEqual(node.level, 0)
                for alias in node.names:
                    self.assertIsNone(alias.asname)
                    self.assertIn(alias.name, defined[node.module], module)
        left = {module: {node.module for node in nodes} for module, nodes in graph.items()}
        while left:
            free = [module for module, wanted in left.items() if not wanted & set(left)]
            self.assertTrue(free, "files import from each other")
            for module in free:
                del left[module]

    def test_imported_names_and_private_names_are_used(self):
        for name, _, tree in self.each():
            read = {node.id for node in ast.walk(tree) if isinstance(node, ast.Name) and isinstance(node.ctx, ast.Load)}
            read |= {node.attr for node in ast.walk(tree) if isinstance(node, ast.Attribute) and isinstance(node.ctx, ast.Load)}
            for node in ast.walk(tree):
                if isinstance(node, ast.ImportFrom):
                    for alias in node.names:
                        self.assertIn(alias.name, read, name)
                if isinstance(node, ast.FunctionDef) and node.name.startswith("_") and not node.name.startswith("__"):
                    self.assertIn(node.name, read, name)

    def test_names(self):
        standard = {word for word in dir(builtins)}
        for name, _, tree in self.each():
            top = {node.name for node in tree.body if isinstance(node, ast.ClassDef)}
            top |= {alias.name for node in tree.body if isinstance(node, ast.ImportFrom) for alias in node.names}
            for node in ast.walk(tree):
                bound = []
                if isinstance(node, ast.arg):
                    bound.append(node.arg)
                if isinstance(node, ast.Name) and isinstance(node.ctx, ast.Store):
                    bound.append(node.id)
                for word in bound:
                    self.assertNotIn(word, top, (name, node.lineno))
                if isinstance(node, (ast.FunctionDef, ast.ClassDef)):
                    bound.append(node.name)
                for word in bound:
                    self.assertNotIn(word, standard | BARRED_NAMES, (name, node.lineno))
                    self.assertRegex(word, "^(_|_?[A-Za-z][A-Za-z0-9_]*|__init__)$")
                if isinstance(node, ast.Attribute):
                    self.assertNotIn(node.attr, BARRED_NAMES | {"args"}, (name, node.lineno))

    def test_calls(self):
        own = {node.name for _, _, tree in self.each() for node in ast.walk(tree) if isinstance(node, (ast.FunctionDef, ast.ClassDef))}
        for name, _, tree in self.each():
            # A function of a table is given a name of its own before it is called.
            tabled = {node.targets[0].id for node in ast.walk(tree) if isinstance(node, ast.Assign) and isinstance(node.value, ast.Subscript)
                      and isinstance(node.value.value, ast.Name) and node.value.value.id.isupper() and isinstance(node.targets[0], ast.Name)}
            for node in ast.walk(tree):
                if isinstance(node, ast.Call) and isinstance(node.func, ast.Name):
                    self.assertIn(node.func.id, own | BUILTINS | tabled, (name, node.lineno))
                if isinstance(node, ast.Call) and isinstance(node.func, ast.Attribute):
                    self.assertIn(node.func.attr, own | METHODS | {"__init__"}, (name, node.lineno))
                if isinstance(node, ast.Name) and node.id in dir(builtins):
                    self.assertIn(node.id, BUILTINS, (name, node.lineno))

    def test_methods_and_attributes_differ(self):
        for name, _, tree in self.each():
            for kind in [node for node in ast.walk(tree) if isinstance(node, ast.ClassDef)]:
                methods = [node.name for node in kind.body if isinstance(node, ast.FunctionDef)]
                self.assertEqual(len(methods), len(set(methods)), (name, kind.name))
                stored = {node.attr for node in ast.walk(kind)
                          if isinstance(node, ast.Attribute) and isinstance(node.ctx, ast.Store)}
                self.assertEqual(stored & set(methods), set(), (name, kind.name))


if __name__ == "__main__":
    unittest.main()
