"""What can be told from the files alone: how the package is written."""

import ast
import builtins
import pathlib
import re
import unittest

FOLDER = pathlib.Path(__file__).resolve().parent.parent / "askfurther"
FILES = sorted(FOLDER.glob("**/*.py"))
BARRED = re.compile(r"\b(type|typing|typing_extensions|enum|Enum|IntEnum|StrEnum|Flag|IntFlag|Generic|Protocol|ABC|ABCMeta"
                    r"|namedtuple|NamedTuple|TypedDict|TYPE_CHECKING|abstractmethod)\b|dataclass|overload|contextmanager")
METHODS = {"__init__", "__eq__", "__len__", "__getitem__", "__iter__", "__contains__"}


class Language(unittest.TestCase):
    def each(self):
        for path in FILES:
            text = path.read_text(encoding="utf-8")
            yield path, text, ast.parse(text)

    def test_the_folder_holds_only_such_files(self):
        self.assertTrue(FILES)
        for path in FOLDER.iterdir():
            self.assertTrue(path.suffix == ".py" and path.stem == path.stem.lower() or path.name == "__pycache__", path)

    def test_characters_and_sizes(self):
        for path, text, tree in self.each():
            self.assertTrue(all(letter == "\n" or " " <= letter <= "~" for letter in text), path)
            self.assertLessEqual(len(text.splitlines()), 399, path)
            self.assertLessEqual(max(len(line) for line in text.splitlines()), 120, path)
            self.assertIsNone(BARRED.search(text), path)
            for node in ast.walk(tree):
                if isinstance(node, ast.FunctionDef):
                    self.assertLessEqual(node.end_lineno - node.lineno + 1, 40, (path, node.name))

    def test_imports(self):
        for path, _, tree in self.each():
            for node in ast.walk(tree):
                self.assertNotIsInstance(node, ast.Import, path)
                if isinstance(node, ast.ImportFrom):
                    self.assertTrue(node.level == 0 and node.module.startswith("askfurther."), path)
                    defined = ast.parse((FOLDER / (node.module.split(".")[1] + ".py")).read_text(encoding="utf-8")).body
                    names = {part.name for part in defined if isinstance(part, (ast.FunctionDef, ast.ClassDef))}
                    self.assertLessEqual({part.name for part in node.names}, names, path)

    def test_statements_and_expressions(self):
        barred = (ast.Global, ast.AsyncFunctionDef, ast.AsyncFor, ast.AsyncWith, ast.Await, ast.Div)
        for path, _, tree in self.each():
            for node in ast.walk(tree):
                self.assertNotIsInstance(node, barred, path)
                if isinstance(node, ast.Compare) and any(isinstance(sign, (ast.Is, ast.IsNot)) for sign in node.ops):
                    self.assertIn(ast.unparse(node.comparators[-1]), ("None", "True", "False"), path)
                if isinstance(node, ast.Constant) and isinstance(node.value, str):
                    self.assertNotIn(chr(37), node.value, path)

    def test_names(self):
        for path, _, tree in self.each():
            for node in ast.walk(tree):
                if isinstance(node, (ast.FunctionDef, ast.ClassDef)):
                    self.assertTrue(not node.name.startswith("_") or node.name in METHODS, (path, node.name))
                    self.assertNotIn(node.name, dir(builtins), path)
                if isinstance(node, ast.arg) or isinstance(node, ast.Name) and isinstance(node.ctx, ast.Store):
                    name = node.arg if isinstance(node, ast.arg) else node.id
                    self.assertFalse(name.startswith("_") or name in dir(builtins), (path, name))

    def test_no_name_is_a_method_and_an_attribute(self):
        methods, attributes = set(), set()
        for _, _, tree in self.each():
            for node in ast.walk(tree):
                if isinstance(node, ast.ClassDef):
                    methods |= {part.name for part in node.body
                                if isinstance(part, ast.FunctionDef) and not part.decorator_list}
                if isinstance(node, ast.Attribute) and isinstance(node.ctx, ast.Store):
                    attributes.add(node.attr)
        self.assertEqual(methods & attributes, set())

    def test_no_property_without_a_setter_is_assigned(self):
        properties, attributes = set(), set()
        for _, _, tree in self.each():
            for node in ast.walk(tree):
                if isinstance(node, ast.FunctionDef) and node.decorator_list:
                    self.assertEqual([ast.unparse(part) for part in node.decorator_list], ["property"])
                    properties.add(node.name)
                if isinstance(node, ast.Attribute) and isinstance(node.ctx, ast.Store):
                    attributes.add(node.attr)
        self.assertIn("start", properties)
        self.assertEqual(properties & attributes, set())


if __name__ == "__main__":
    unittest.main()
