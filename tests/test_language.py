"""What can be told from the files alone: how the package is written."""

import ast
import builtins
import pathlib
import re
import unittest

FOLDER = pathlib.Path(__file__).resolve().parent.parent / "askfurther"
FILES = sorted(FOLDER.glob("**/*.py"))
BARRED = re.compile(r"\b(type|typing|typing_extensions|enum|Enum|IntEnum|StrEnum|Flag|IntFlag|Generic|Protocol|ABC|ABCMeta"
                    r"|namedtuple|NamedTuple|TypedDict|TYPE_CHECKING|abstractmethod)\b|dataclass|overload|contextmanager")
INTERFACE = {
    "shown", "written", "passing", "handled", "fused", "parted", "within", "least", "pairs", "pairs_fault",
    "parting_handler", "met", "way_to", "unmet", "answers", "parted_handlers", "within_handlers", "parting_body",
    "least_handler", "state_pairs", "state_pairs_fault", "alike_from", "played", "tried", "tried_within", "counted",
    "numbered", "index_of", "first_to", "is_finite", "totals", "entries", "exits", "leaves", "shown_by", "least_asks",
    "way_out", "unrolled", "clauses_met", "rights", "rights_paper", "rights_fault", "body_text", "handler_text",
    "read_body", "read_handler",
}
METHODS = {"__init__", "__eq__", "__len__", "__getitem__", "__setitem__", "__iter__", "__contains__", "__call__", "__enter__",
           "__exit__"}
CHANGING = {"__init__", "__setitem__", "__call__", "__enter__", "__exit__"}


class Language(unittest.TestCase):
    def each(self):
        for path in FILES:
            text = path.read_text(encoding="utf-8")
            yield path, text, ast.parse(text)

    def test_the_folder_holds_only_such_files(self):
        self.assertTrue(FILES)
        for path in FOLDER.iterdir():
            self.assertTrue(path.suffix == ".py" and path.stem == path.stem.lower() or path.name == "__pycache__", path)

    def test_characters_and_sizes(self):
        for path, text, tree in self.each():
            self.assertTrue(all(letter == "\n" or " " <= letter <= "~" for letter in text), path)
            self.assertLessEqual(len(text.splitlines()), 399, path)
            self.assertLessEqual(max(len(line) for line in text.splitlines()), 120, path)
            self.assertIsNone(BARRED.search(text), path)
            for node in ast.walk(tree):
                if isinstance(node, ast.FunctionDef):
                    self.assertLessEqual(node.end_lineno - node.lineno + 1, 40, (path, node.name))

    def test_imports(self):
        for path, _, tree in self.each():
            for node in ast.walk(tree):
                self.assertNotIsInstance(node, ast.Import, path)
                if isinstance(node, ast.ImportFrom):
                    self.assertTrue(node.level == 0 and node.module.startswith("askfurther."), path)
                    defined = ast.parse((FOLDER / (node.module.split(".")[1] + ".py")).read_text(encoding="utf-8")).body
                    names = {part.name for part in defined if isinstance(part, (ast.FunctionDef, ast.ClassDef))}
                    names |= {part.targets[0].id for part in defined if isinstance(part, ast.Assign)}
                    self.assertLessEqual({part.name for part in node.names}, names, path)

    def test_statements_and_expressions(self):
        barred = (ast.Global, ast.AsyncFunctionDef, ast.AsyncFor, ast.AsyncWith, ast.Await, ast.Div)
        for path, _, tree in self.each():
            for node in ast.walk(tree):
                self.assertNotIsInstance(node, barred, path)
                if isinstance(node, ast.Compare) and any(isinstance(sign, (ast.Is, ast.IsNot)) for sign in node.ops):
                    self.assertIn(ast.unparse(node.comparators[-1]), ("None", "True", "False"), path)
                if isinstance(node, ast.Constant) and isinstance(node.value, str):
                    self.assertNotIn(chr(37), node.value, path)

    def test_names(self):
        for path, _, tree in self.each():
            for node in ast.walk(tree):
                if isinstance(node, (ast.FunctionDef, ast.ClassDef)):
                    self.assertTrue(not node.name.startswith("_") or node.name in METHODS, (path, node.name))
                    self.assertNotIn(node.name, dir(builtins), path)
                if isinstance(node, ast.arg) or isinstance(node, ast.Name) and isinstance(node.ctx, ast.Store):
                    name = node.arg if isinstance(node, ast.arg) else node.id
                    self.assertFalse(name.startswith("_") or name in dir(builtins), (path, name))

    def test_no_local_name_is_that_of_a_class_or_an_import(self):
        for path, _, tree in self.each():
            taken = {part.name for part in tree.body if isinstance(part, ast.ClassDef)}
            for part in tree.body:
                if isinstance(part, ast.ImportFrom):
                    taken |= {name.name for name in part.names}
                    self.assertTrue(all(name.asname is None for name in part.names), path)
            for node in ast.walk(tree):
                name = node.arg if isinstance(node, ast.arg) else None
                if isinstance(node, ast.Name) and isinstance(node.ctx, ast.Store):
                    name = node.id
                self.assertNotIn(name, taken, path)

    def test_no_files_import_from_each_other(self):
        imports = {path.stem: {part.module.split(".")[1] for part in tree.body if isinstance(part, ast.ImportFrom)}
                   for path, _, tree in self.each()}
        while imports:
            free = [name for name, others in imports.items() if not others & set(imports)]
            self.assertTrue(free, imports)
            imports = {name: others for name, others in imports.items() if name not in free}

    def test_each_import_and_function_is_used(self):
        texts = {path: text for path, text, _ in self.each()}
        for path, text, tree in self.each():
            for part in tree.body:
                for name in part.names if isinstance(part, ast.ImportFrom) else ():
                    self.assertGreater(len(re.findall(rf"\b{name.name}\b", text)), 1, (path, name.name))
                if isinstance(part, ast.FunctionDef) and part.name not in INTERFACE:
                    found = sum(len(re.findall(rf"\b{part.name}\(|key={part.name}|: {part.name},|, {part.name}\)", told)) for told in texts.values())
                    self.assertGreater(found, 1, (path, part.name))

    def test_loops_and_calls(self):
        for path, _, tree in self.each():
            for node in ast.walk(tree):
                self.assertNotIsInstance(node, (ast.GeneratorExp, ast.SetComp, ast.Set, ast.Yield, ast.Try), path)
                if isinstance(node, ast.Attribute):
                    self.assertNotIn(node.attr, ("sort", "args", "format", "keys"), path)
                if isinstance(node, ast.Call) and isinstance(node.func, ast.Name) and node.func.id in ("zip", "enumerate", "range"):
                    self.assertIn((path, node.lineno, node.col_offset), self.at_once(path, tree))

    def at_once(self, path, tree):
        """Where the calls stand that are iterated on the spot."""
        found = set()
        for node in ast.walk(tree):
            told = [node.iter] if isinstance(node, (ast.For, ast.comprehension)) else []
            if isinstance(node, ast.Call) and isinstance(node.func, ast.Name) and node.func.id in ("list", "tuple", "sorted", "dict", "enumerate", "zip", "sum"):
                told = node.args[:1]
            found |= {(path, part.lineno, part.col_offset) for part in told}
        return found

    def test_what_tells_and_compares_changes_nothing(self):
        for path, _, tree in self.each():
            for node in ast.walk(tree):
                if isinstance(node, ast.FunctionDef) and (node.name.startswith("__") or node.decorator_list) and node.name not in CHANGING:
                    barred = (ast.Assign, ast.AugAssign, ast.For, ast.While, ast.Delete)
                    self.assertFalse([part for part in ast.walk(node) if isinstance(part, barred)], (path, node.name))

    def test_no_name_is_a_method_and_an_attribute(self):
        methods, attributes = set(), set()
        for _, _, tree in self.each():
            for node in ast.walk(tree):
                if isinstance(node, ast.ClassDef):
                    methods |= {part.name for part in node.body
                                if isinstance(part, ast.FunctionDef) and not part.decorator_list}
                if isinstance(node, ast.Attribute) and isinstance(node.ctx, ast.Store):
                    attributes.add(node.attr)
        self.assertEqual(methods & attributes, set())

    def test_no_property_without_a_setter_is_assigned(self):
        properties, attributes = set(), set()
        for _, _, tree in self.each():
            for node in ast.walk(tree):
                if isinstance(node, ast.FunctionDef) and node.decorator_list:
                    self.assertEqual([ast.unparse(part) for part in node.decorator_list], ["property"])
                    properties.add(node.name)
                if isinstance(node, ast.Attribute) and isinstance(node.ctx, ast.Store):
                    attributes.add(node.attr)
        self.assertIn("start", properties)
        self.assertEqual(properties & attributes, set())


if __name__ == "__main__":
    unittest.main()
