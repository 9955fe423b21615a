"""What properties and operators run only reads: rule L5 of the language, as far as names tell.

The tests read the files of the package. They follow each call by its name: from the properties, the operators,
`__eq__`, `__str__`, `__repr__` and `__len__` to all functions and methods of the package that these call.
"""

import ast
import builtins
import pathlib
import unittest

import holdhouse

PACKAGE = pathlib.Path(holdhouse.__file__).parent
OPERATORS = ("__bool__", "__contains__", "__getitem__")
COMPARED_AND_SHOWN = ("__eq__", "__str__", "__repr__", "__len__")
# Methods of builtin values that change nothing.
READING = {"get", "items", "join", "keys", "partition", "split", "startswith", "strip", "values"}


class Package:
    """The functions, methods, classes and attributes of the package, by their names."""

    def __init__(self, *texts):
        self.functions, self.classes, self.attributes, self.readers = {}, set(), set(), []
        for text in texts:
            for node in ast.walk(ast.parse(text)):
                if isinstance(node, ast.FunctionDef):
                    self.functions.setdefault(node.name, []).append(node)
                    if node.name in OPERATORS + COMPARED_AND_SHOWN or self.is_property(node):
                        self.readers.append(node)
                elif isinstance(node, ast.ClassDef):
                    self.classes.add(node.name)
                elif isinstance(node, ast.Attribute) and isinstance(node.ctx, ast.Store):
                    self.attributes.add(node.attr)

    def is_property(self, node):
        return any(isinstance(one, ast.Name) and one.id == "property" for one in node.decorator_list)

    def faults(self):
        """What the readers, and all that they call, do besides reading."""
        found, seen, waiting = [], [], list(self.readers)
        while waiting:
            node = waiting.pop()
            if node not in seen:
                seen.append(node)
                for inner in ast.walk(node):
                    found += [f"{node.name}: {fault}" for fault in self.faults_of(inner, node)]
                    waiting += self.called(inner)
        return found

    def called(self, node):
        if not isinstance(node, ast.Call):
            return []
        name = node.func.id if isinstance(node.func, ast.Name) else getattr(node.func, "attr", None)
        return self.functions.get(name, [])

    def faults_of(self, node, function):
        if isinstance(node, (ast.Attribute, ast.Subscript)) and not isinstance(node.ctx, ast.Load):
            yield f"changes {ast.unparse(node)}"
        if isinstance(node, ast.Call) and not self.may_be_called(node.func, function):
            yield f"calls {ast.unparse(node.func)}"

    def may_be_called(self, told, function):
        if isinstance(told, ast.Name):
            return told.id in self.functions or told.id in self.classes or hasattr(builtins, told.id)
        if told.attr in self.attributes:
            return False
        if told.attr == "append":
            return ast.unparse(told.value) in self.own_lists(function)
        return told.attr in self.functions or told.attr in READING

    def own_lists(self, function):
        """The variables to which the function assigns nothing but list literals."""
        told = {}
        for node in ast.walk(function):
            if isinstance(node, ast.Assign) and isinstance(node.targets[0], ast.Name):
                told.setdefault(node.targets[0].id, []).append(isinstance(node.value, ast.List))
        return {name for name, all_lists in told.items() if all(all_lists)}


class Readers(unittest.TestCase):
    def test_the_package(self):
        package = Package(*[path.read_text() for path in sorted(PACKAGE.glob("*.py"))])
        self.assertIn("shape", [node.name for node in package.readers])
        self.assertEqual(package.faults(), [])

    def test_what_counts_as_a_fault(self):
        head = "class Bad(ValueError):\n def __init__(self, index):\n  self.index = index\n"
        shape = "class Box:\n @property\n def shape(self):\n  return told(self)\n"
        for told, faults in (("return placed.index(box)", ["told: calls placed.index"]),
                             ("box.many = 1", ["told: changes box.many"]),
                             ("placed[0] = 1", ["told: changes placed[0]"]),
                             ("placed.append(1)", ["told: calls placed.append"]),
                             ("placed = []\n placed.append(1)", []),
                             ("raise Bad(3)", []),
                             ("return placed.sort()", ["told: calls placed.sort"]),
                             ("return {one: at for at, one in enumerate(box)}", [])):
            with self.subTest(told=told):
                self.assertEqual(Package(head + shape + f"def told(box):\n {told}\n").faults(), faults)


if __name__ == "__main__":
    unittest.main()
