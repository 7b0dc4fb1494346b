"""Rules L5 and L28 of the language: what operators, `==`, `len`, `in` and properties reach changes nothing."""

import ast
import pathlib
import unittest

PACKAGE = pathlib.Path(__file__).resolve().parent.parent / "townlines"
IN_PLACE = ["__ior__", "__iadd__", "__iand__", "__isub__", "__imul__", "__setitem__"]
NO_OPERATORS = ["__init__", "__enter__", "__exit__", "__call__"]
CHANGING = ["append", "clear", "extend", "insert", "pop", "remove", "reverse", "setdefault", "update", "sort", "add",
            "discard"]
MAKERS = ["list", "dict", "sorted"]


def trees():
    return [(path.name, ast.parse(path.read_text(encoding="utf-8"))) for path in sorted(PACKAGE.glob("*.py"))]


def is_property(node):
    return any(isinstance(part, ast.Name) and part.id == "property" for part in node.decorator_list)


class Package:
    """The functions and methods of the files, by their names."""

    def __init__(self, files):
        self.functions, self.methods, self.makers, self.roots = {}, {}, {}, []
        for file, tree in files:
            for node in tree.body:
                if isinstance(node, ast.FunctionDef):
                    self.functions.setdefault(node.name, []).append((file, node))
                elif isinstance(node, ast.ClassDef):
                    self.take_class(file, node)

    def take_class(self, file, tree):
        for node in tree.body:
            if not isinstance(node, ast.FunctionDef):
                continue
            name = node.name
            if name == "__init__":
                self.makers.setdefault(tree.name, []).append((file, node))
            elif not name.startswith("__"):
                self.methods.setdefault(name, []).append((file, node))
            if is_property(node) or (name.startswith("__") and name not in IN_PLACE + NO_OPERATORS):
                self.roots.append((file, node))

    def called(self, node):
        """The functions and methods that a function calls, as far as their names tell."""
        for part in ast.walk(node):
            if isinstance(part, ast.Call) and isinstance(part.func, ast.Name):
                yield from self.functions.get(part.func.id, []) + self.makers.get(part.func.id, [])
            elif isinstance(part, ast.Call):
                yield from self.methods.get(part.func.attr, [])

    def reached(self):
        found, waiting = {}, list(self.roots)
        while waiting:
            file, node = waiting.pop()
            if (file, node.lineno) not in found:
                found[file, node.lineno] = node
                waiting += self.called(node)
        return found


def assigned(node):
    """A dict from the names that a function assigns to the values that they are given; None for other ways."""
    values = {}
    for part in ast.walk(node):
        if isinstance(part, ast.Assign):
            for target in part.targets:
                if isinstance(target, ast.Name):
                    values.setdefault(target.id, []).append(part.value)
                elif isinstance(target, (ast.Tuple, ast.List)):
                    for name in ast.walk(target):
                        if isinstance(name, ast.Name):
                            values.setdefault(name.id, []).append(None)
        elif isinstance(part, (ast.For, ast.comprehension)):
            for name in ast.walk(part.target):
                if isinstance(name, ast.Name):
                    values.setdefault(name.id, []).append(None)
    arguments = node.args
    for argument in arguments.posonlyargs + arguments.args + arguments.kwonlyargs:
        values.setdefault(argument.arg, []).append(None)
    return values


def is_created(value):
    """Whether a list or dict is created here in one of the ways that the rule allows."""
    if isinstance(value, (ast.List, ast.Dict, ast.ListComp)):
        return True
    return isinstance(value, ast.Call) and isinstance(value.func, ast.Name) and value.func.id in MAKERS


def is_own_attribute(target):
    return isinstance(target, ast.Attribute) and isinstance(target.value, ast.Name) and target.value.id == "self"


def changed_objects(node):
    """The expressions whose items or attributes a function changes."""
    for part in ast.walk(node):
        targets = []
        if isinstance(part, ast.Assign):
            targets = [inner for target in part.targets for inner in ast.walk(target)]
        elif isinstance(part, (ast.AugAssign, ast.AnnAssign)):
            targets = [part.target]
        elif isinstance(part, ast.Delete):
            targets = part.targets
        for target in targets:
            if isinstance(target, (ast.Subscript, ast.Attribute)) and not isinstance(target.ctx, ast.Load):
                if not (node.name == "__init__" and is_own_attribute(target)):
                    yield target.value
        if isinstance(part, ast.Call) and isinstance(part.func, ast.Attribute) and part.func.attr in CHANGING:
            yield part.func.value


def faults(files):
    """What the functions that operators and properties reach do against the rules."""
    found = []
    for (file, row), node in Package(files).reached().items():
        values = assigned(node)
        for changed in changed_objects(node):
            if not isinstance(changed, ast.Name) or not all(is_created(one) for one in values.get(changed.id, [None])):
                found.append((file, node.name, changed.lineno, "changes what it did not create"))
        for part in ast.walk(node):
            if isinstance(part, ast.AugAssign) and not isinstance(part.value, ast.Constant):
                found.append((file, node.name, part.lineno, "augmented assignment"))
            if isinstance(part, ast.Call) and isinstance(part.func, ast.Name) and part.func.id in values:
                found.append((file, node.name, part.lineno, "calls what it is passed"))
            if isinstance(part, (ast.Nonlocal, ast.Lambda, ast.Yield)):
                found.append((file, node.name, part.lineno, "no plain row"))
    return found


BAD_ROWS = [
    "follow = xs + [1]\n        follow[0] = 2",
    "follow = [1]\n        follow[0] = 2\n        follow = follow + xs",
    "follow = {x: True for x in xs}\n        follow[0] = 2",
    "follow = xs\n        follow.append(1)",
    "xs.append(1)",
    "xs[0] += 1",
    "del xs[0]",
    "other.rows.append(1)",
    "other.rows = []",
    "for row in xs:\n            row.append(1)",
    "rows, row = xs\n        rows.append(1)",
    "rows = []\n        rows[0] += xs",
    "xs(1)",
]
GOOD_ROWS = [
    "follow = [1]\n        follow[0] = 2\n        later = follow + xs",
    "follow = list(xs)\n        follow.append(2)",
    "follow = {}\n        follow[1] = 2\n        follow = [x for x in xs]\n        follow.extend(xs)",
    "number = 0\n        number += 1",
]
AROUND = """
class Box:
    def __init__(self):
        self.rows = []
    def __add__(self, other):
        return told(other, [1])
    def other(self, xs):
        xs.append(1)
def told(other, xs):
    return Inner(other, xs)
class Inner:
    def __init__(self, other, xs):
        self.xs = xs
        {}
"""


class Operators(unittest.TestCase):
    def test_what_they_reach_changes_nothing(self):
        self.assertEqual(faults(trees()), [])

    def test_they_reach_the_nets_of_forms_and_kinds(self):
        names = {node.name for node in Package(trees()).reached().values()}
        self.assertLessEqual({"line_added", "chained", "side_by_side", "joined", "stand_after", "owner_sets"}, names)

    def test_the_rule_is_told_from_what_breaks_it(self):
        for rows in BAD_ROWS:
            self.assertEqual(len(faults([("a.py", ast.parse(AROUND.format(rows)))])), 1, rows)
        for rows in GOOD_ROWS:
            self.assertEqual(faults([("a.py", ast.parse(AROUND.format(rows)))]), [], rows)


if __name__ == "__main__":
    unittest.main()
