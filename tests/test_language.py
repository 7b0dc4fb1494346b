"""Rules of the language subset that are quickly checked: files, imports, sizes, characters, words."""

import ast
import builtins
import pathlib
import re
import unittest

PACKAGE = pathlib.Path(__file__).resolve().parent.parent / "townlines"
FILES = sorted(PACKAGE.rglob("*.py"))
BARRED = ["type", "typing", "typing_extensions", "enum", "Enum", "IntEnum", "StrEnum", "Flag", "IntFlag", "Generic",
          "Protocol", "ABC", "ABCMeta", "namedtuple", "NamedTuple", "TypedDict", "TYPE_CHECKING", "abstractmethod"]
TEXTS = [(path.name, path.read_text(encoding="utf-8")) for path in FILES]
BUILTIN_METHODS = """append clear copy count endswith extend find get index insert isalnum isalpha isdigit islower isspace
    isupper items join keys ljust lower lstrip partition pop remove replace reverse rfind rjust rpartition rsplit rstrip
    setdefault split splitlines startswith strip update upper values zfill bit_length""".split()
COMPREHENSIONS = (ast.ListComp, ast.DictComp, ast.SetComp, ast.GeneratorExp)
KEYWORDS = {"sorted": ["key", "reverse"], "min": ["key", "default"], "max": ["key", "default"], "sum": ["start"],
            "enumerate": ["start"], "zip": ["strict"]}
STATEMENTS = (ast.Global, ast.AsyncFunctionDef, ast.AsyncFor, ast.AsyncWith, ast.Await)


class LanguageRules(unittest.TestCase):
    def test_only_plain_files(self):
        self.assertIn(PACKAGE / "__init__.py", FILES)
        for path in PACKAGE.rglob("*"):
            if "__pycache__" not in path.parts and path.is_file():
                self.assertRegex(path.name, r"^[a-z0-9_]+\.py$")

    def test_sizes_and_characters(self):
        for file, text in TEXTS:
            lines = text.split("\n")
            self.assertLessEqual(len(lines), 400, file)
            self.assertLessEqual(max(len(line) for line in lines), 120, file)
            self.assertIsNone(re.search(r"[^ -~\n]", text), file)
            for node in ast.walk(ast.parse(text)):
                if isinstance(node, ast.FunctionDef):
                    self.assertLessEqual(node.end_lineno - node.lineno + 1, 40, (file, node.name))

    def test_barred_words(self):
        for file, text in TEXTS:
            for word in BARRED:
                self.assertIsNone(re.search(rf"\b{word}\b", text), (file, word))
            for part in ["dataclass", "overload", "contextmanager"]:
                self.assertNotIn(part, text, file)

    def test_imports(self):
        for file, text in TEXTS:
            tree = ast.parse(text)
            inner = [node for node in ast.walk(tree) if isinstance(node, (ast.Import, ast.ImportFrom))]
            self.assertTrue(all(node in tree.body for node in inner), file)
            for node in inner:
                self.assertIsInstance(node, ast.ImportFrom, file)
                self.assertEqual(node.level, 0, file)
                self.assertTrue(node.module == "__future__" or node.module.startswith("townlines."), file)
                self.assertNotIn("*", [alias.name for alias in node.names], file)

    def test_strings_names_and_statements(self):
        for file, text in TEXTS:
            for node in ast.walk(ast.parse(text)):
                self.assertNotIsInstance(node, STATEMENTS, file)
                if isinstance(node, ast.Constant) and isinstance(node.value, str):
                    self.assertNotIn("%", node.value, file)
                if isinstance(node, ast.Name):
                    self.assertFalse(node.id.startswith("_"), (file, node.id))
                if isinstance(node, ast.BinOp):
                    self.assertNotIsInstance(node.op, ast.Div, file)

    def all_nodes(self, kind):
        for file, text in TEXTS:
            for node in ast.walk(ast.parse(text)):
                if isinstance(node, kind):
                    yield file, node

    def test_no_name_is_a_method_and_an_attribute(self):
        attributes = {node.attr for _, node in self.all_nodes(ast.Attribute) if isinstance(node.ctx, ast.Store)}
        self.assertEqual(self.methods() & attributes, set())

    def methods(self):
        return {part.name for _, node in self.all_nodes(ast.ClassDef) for part in node.body
                if isinstance(part, ast.FunctionDef)}

    def test_calls(self):
        allowed = self.methods() | set(BUILTIN_METHODS)
        for file, node in self.all_nodes(ast.Call):
            if isinstance(node.func, ast.Attribute):
                self.assertIn(node.func.attr, allowed, file)
            elif node.func.id in dir(builtins):
                self.assertFalse(any(isinstance(part, ast.GeneratorExp) for part in node.args), (file, node.lineno))

    def test_local_names(self):
        for file, text in TEXTS:
            tree = ast.parse(text)
            barred = {alias.name for node in tree.body if isinstance(node, ast.ImportFrom) for alias in node.names}
            barred |= set(dir(builtins)) | {node.name for node in tree.body if isinstance(node, ast.ClassDef)}
            for node in ast.walk(tree):
                names = {node.arg} if isinstance(node, ast.arg) else set()
                if isinstance(node, ast.Name) and isinstance(node.ctx, ast.Store):
                    names = {node.id}
                self.assertEqual(names & barred, set(), file)

    def test_no_two_files_import_from_each_other(self):
        found = {file[:-3]: [node.module.split(".")[1] for node in ast.parse(text).body if isinstance(node, ast.ImportFrom)]
                 for file, text in TEXTS}
        for file in found:
            reached, waiting = set(), list(found[file])
            while waiting:
                other = waiting.pop()
                if other not in reached:
                    reached.add(other)
                    waiting += found[other]
            self.assertNotIn(file, reached)

    def test_imports_name_the_file_that_defines_the_name(self):
        defined = {}
        for file, text in TEXTS:
            tree = ast.parse(text)
            defined["townlines." + file[:-3]] = {node.name for node in tree.body
                                                 if isinstance(node, (ast.FunctionDef, ast.ClassDef))}
            defined["townlines." + file[:-3]] |= {target.id for node in tree.body if isinstance(node, ast.Assign)
                                                  for target in node.targets}
        for file, node in self.all_nodes(ast.ImportFrom):
            self.assertLessEqual({alias.name for alias in node.names}, defined[node.module], file)

    def test_names_in_nested_comprehensions(self):
        for file, node in self.all_nodes(ast.FunctionDef):
            names = {part.arg for part in ast.walk(node.args) if isinstance(part, ast.arg)}
            self.check_names(file, node, names | self.stored(node), False)

    def stored(self, tree):
        """The names that are assigned in a function, outside of comprehensions."""
        names = set()
        for node in ast.iter_child_nodes(tree):
            if not isinstance(node, COMPREHENSIONS):
                if isinstance(node, ast.Name) and isinstance(node.ctx, ast.Store):
                    names.add(node.id)
                names |= self.stored(node)
        return names

    def check_names(self, file, tree, outer, is_nested):
        for node in ast.iter_child_nodes(tree):
            if isinstance(node, COMPREHENSIONS):
                own = {part.id for loop in node.generators for part in ast.walk(loop.target) if isinstance(part, ast.Name)}
                if is_nested:
                    self.assertEqual(own & outer, set(), (file, node.lineno))
                self.check_names(file, node, outer | own, True)
            else:
                self.check_names(file, node, outer, is_nested)

    def test_no_sets_no_lambdas_and_no_plus_assignments(self):
        """The rules allow some of them; the package does without."""
        for file, text in TEXTS:
            for node in ast.walk(ast.parse(text)):
                self.assertNotIsInstance(node, (ast.Set, ast.SetComp, ast.Lambda, ast.AugAssign, ast.NamedExpr, ast.Starred,
                                                ast.JoinedStr, ast.Nonlocal, ast.With, ast.Match), file)
                if isinstance(node, ast.Call) and isinstance(node.func, ast.Name):
                    self.assertNotIn(node.func.id, ["set", "frozenset", "iter", "next", "bytes", "chr", "print"], file)

    def test_is_stands_beside_none_true_and_false(self):
        for file, node in self.all_nodes(ast.Compare):
            for sign, other in zip(node.ops, node.comparators):
                if isinstance(sign, (ast.Is, ast.IsNot)):
                    self.assertIsInstance(other, ast.Constant, file)
                    self.assertIn(other.value, [None, True, False], file)

    def test_keywords_of_builtins(self):
        for file, node in self.all_nodes(ast.Call):
            if isinstance(node.func, ast.Name) and node.func.id in dir(builtins):
                self.assertLessEqual({part.arg for part in node.keywords}, set(KEYWORDS.get(node.func.id, [])), file)
            elif isinstance(node.func, ast.Attribute) and node.func.attr in BUILTIN_METHODS:
                self.assertEqual(node.keywords, [], file)

    def test_reversed_takes_a_list_or_a_range(self):
        for file, node in self.all_nodes(ast.Call):
            if isinstance(node.func, ast.Name) and node.func.id == "reversed":
                self.assertIsInstance(node.args[0], ast.Call, file)
                self.assertIn(node.args[0].func.id, ["list", "tuple", "sorted", "range"], file)

    def test_views_are_iterated_at_once(self):
        """zip, enumerate, range, items, keys and values stand in a loop or in a call that iterates them."""
        for file, text in TEXTS:
            tree = ast.parse(text)
            allowed = set()
            for node in ast.walk(tree):
                if isinstance(node, (ast.For, ast.comprehension)):
                    allowed.add(node.iter)
                elif isinstance(node, ast.Call) and isinstance(node.func, ast.Name) and node.args:
                    if node.func.id in ["list", "tuple", "dict", "sorted", "sum", "any", "all", "enumerate", "zip", "min", "max"]:
                        allowed.add(node.args[0])
                    if node.func.id == "reversed" and node.args[0].func.id == "range":
                        allowed.add(node.args[0])
            for node in ast.walk(tree):
                if isinstance(node, ast.Call):
                    name = node.func.id if isinstance(node.func, ast.Name) else node.func.attr
                    if name in ["zip", "enumerate", "reversed", "range", "items", "keys", "values"]:
                        self.assertIn(node, allowed, (file, node.lineno))

    def test_loops_do_not_change_what_they_iterate_over(self):
        changing = ["append", "clear", "extend", "insert", "pop", "remove", "reverse", "setdefault", "update"]
        for file, node in self.all_nodes(ast.For):
            iterated = {part.id for part in ast.walk(node.iter) if isinstance(part, ast.Name)}
            for part in ast.walk(ast.Module(node.body, [])):
                changed = None
                if isinstance(part, ast.Call) and isinstance(part.func, ast.Attribute) and part.func.attr in changing:
                    changed = part.func.value
                elif isinstance(part, ast.Subscript) and not isinstance(part.ctx, ast.Load):
                    changed = part.value
                if isinstance(changed, ast.Name) and not isinstance(node.iter, ast.Call):
                    self.assertNotIn(changed.id, iterated, (file, node.lineno))

    def test_functions_and_generators(self):
        names = {}
        for file, node in self.all_nodes(ast.FunctionDef):
            self.assertNotIn(node.name, dir(builtins), file)
            yields = any(isinstance(part, (ast.Yield, ast.YieldFrom)) for part in ast.walk(node))
            names.setdefault(node.name, []).append(yields)
        for name, kinds in names.items():
            if True in kinds:
                self.assertEqual(kinds, [True], name)

    def test_handlers_catch_own_errors_only(self):
        own = {node.name for _, node in self.all_nodes(ast.ClassDef)}
        for file, node in self.all_nodes(ast.ExceptHandler):
            parts = node.type.elts if isinstance(node.type, ast.Tuple) else [node.type]
            self.assertLessEqual({part.id for part in parts}, own, file)

    def test_finally_assigns_plain_names_only(self):
        for file, node in self.all_nodes(ast.Try):
            for part in node.finalbody:
                self.assertIsInstance(part, ast.Assign, file)
                self.assertIsInstance(part.value, (ast.Name, ast.Attribute), file)

    def test_each_import_is_used(self):
        for file, text in TEXTS:
            tree = ast.parse(text)
            used = {node.id for node in ast.walk(tree) if isinstance(node, ast.Name)}
            for node in tree.body:
                if isinstance(node, ast.ImportFrom):
                    self.assertEqual({alias.name for alias in node.names} - used, set(), file)


if __name__ == "__main__":
    unittest.main()
