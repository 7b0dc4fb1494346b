"""Rules of the language subset that are quickly checked: files, imports, sizes, characters, words."""

import ast
import builtins
import pathlib
import re
import unittest

PACKAGE = pathlib.Path(__file__).resolve().parent.parent / "townlines"
FILES = sorted(PACKAGE.rglob("*.py"))
BARRED = ["type", "typing", "typing_extensions", "enum", "Enum", "IntEnum", "StrEnum", "Flag", "IntFlag", "Generic",
          "Protocol", "ABC", "ABCMeta", "namedtuple", "NamedTuple", "TypedDict", "TYPE_CHECKING", "abstractmethod"]
TEXTS = [(path.name, path.read_text(encoding="utf-8")) for path in FILES]
BUILTIN_METHODS = """append clear copy count endswith extend find get index insert isalnum isalpha isdigit islower isspace
    isupper items join keys ljust lower lstrip partition pop remove replace reverse rfind rjust rpartition rsplit rstrip
    setdefault split splitlines startswith strip update upper values zfill bit_length""".split()
STATEMENTS = (ast.Global, ast.AsyncFunctionDef, ast.AsyncFor, ast.AsyncWith, ast.Await)


class LanguageRules(unittest.TestCase):
    def test_only_plain_files(self):
        self.assertIn(PACKAGE / "__init__.py", FILES)
        for path in PACKAGE.rglob("*"):
            if "__pycache__" not in path.parts and path.is_file():
                self.assertRegex(path.name, r"^[a-z0-9_]+\.py$")

    def test_sizes_and_characters(self):
        for file, text in TEXTS:
            lines = text.split("\n")
            self.assertLessEqual(len(lines), 400, file)
            self.assertLessEqual(max(len(line) for line in lines), 120, file)
            self.assertIsNone(re.search(r"[^ -~\n]", text), file)
            for node in ast.walk(ast.parse(text)):
                if isinstance(node, ast.FunctionDef):
                    self.assertLessEqual(node.end_lineno - node.lineno + 1, 40, (file, node.name))

    def test_barred_words(self):
        for file, text in TEXTS:
            for word in BARRED:
                self.assertIsNone(re.search(rf"\b{word}\b", text), (file, word))
            for part in ["dataclass", "overload", "contextmanager"]:
                self.assertNotIn(part, text, file)

    def test_imports(self):
        for file, text in TEXTS:
            tree = ast.parse(text)
            inner = [node for node in ast.walk(tree) if isinstance(node, (ast.Import, ast.ImportFrom))]
            self.assertTrue(all(node in tree.body for node in inner), file)
            for node in inner:
                self.assertIsInstance(node, ast.ImportFrom, file)
                self.assertEqual(node.level, 0, file)
                self.assertTrue(node.module == "__future__" or node.module.startswith("townlines."), file)
                self.assertNotIn("*", [alias.name for alias in node.names], file)

    def test_strings_names_and_statements(self):
        for file, text in TEXTS:
            for node in ast.walk(ast.parse(text)):
                self.assertNotIsInstance(node, STATEMENTS, file)
                if isinstance(node, ast.Constant) and isinstance(node.value, str):
                    self.assertNotIn("%", node.value, file)
                if isinstance(node, ast.Name):
                    self.assertFalse(node.id.startswith("_"), (file, node.id))
                if isinstance(node, ast.BinOp):
                    self.assertNotIsInstance(node.op, ast.Div, file)

    def all_nodes(self, kind):
        for file, text in TEXTS:
            for node in ast.walk(ast.parse(text)):
                if isinstance(node, kind):
                    yield file, node

    def test_no_name_is_a_method_and_an_attribute(self):
        attributes = {node.attr for _, node in self.all_nodes(ast.Attribute) if isinstance(node.ctx, ast.Store)}
        self.assertEqual(self.methods() & attributes, set())

    def methods(self):
        return {part.name for _, node in self.all_nodes(ast.ClassDef) for part in node.body
                if isinstance(part, ast.FunctionDef)}

    def test_calls(self):
        allowed = self.methods() | set(BUILTIN_METHODS)
        for file, node in self.all_nodes(ast.Call):
            if isinstance(node.func, ast.Attribute):
                self.assertIn(node.func.attr, allowed, file)
            elif node.func.id in dir(builtins):
                self.assertFalse(any(isinstance(part, ast.GeneratorExp) for part in node.args), (file, node.lineno))

    def test_local_names(self):
        for file, text in TEXTS:
            tree = ast.parse(text)
            barred = {alias.name for node in tree.body if isinstance(node, ast.ImportFrom) for alias in node.names}
            barred |= set(dir(builtins)) | {node.name for node in tree.body if isinstance(node, ast.ClassDef)}
            for node in ast.walk(tree):
                names = {node.arg} if isinstance(node, ast.arg) else set()
                if isinstance(node, ast.Name) and isinstance(node.ctx, ast.Store):
                    names = {node.id}
                self.assertEqual(names & barred, set(), file)

    def test_each_import_is_used(self):
        for file, text in TEXTS:
            tree = ast.parse(text)
            used = {node.id for node in ast.walk(tree) if isinstance(node, ast.Name)}
            for node in tree.body:
                if isinstance(node, ast.ImportFrom):
                    self.assertEqual({alias.name for alias in node.names} - used, set(), file)


if __name__ == "__main__":
    unittest.main()
