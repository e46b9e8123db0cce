"""The interface: where each name is defined, and what its arguments are called."""

import importlib
import inspect
import pathlib
import unittest

FOLDER = pathlib.Path(__file__).resolve().parent.parent / "askfurther"
FUNCTIONS = {
    "bodies": {"shown": "body history"},
    "written": {"written": "operations sizes block"},
    "handlers": {"passing": ""},
    "fusing": {"handled": "handler body", "fused": "inner outer"},
    "likeness": {"parted": "one other", "within": "one other", "least": "body", "pairs": "one other", "pairs_fault": "one other pairs",
                 "parting_handler": "one other"},
    "reach": {"met": "handler body", "way_to": "handler state", "unmet": "handler", "answers": "handler operation"},
    "sameness": {"parted_handlers": "one other", "within_handlers": "one other", "parting_body": "one other", "least_handler": "handler",
                 "state_pairs": "one other", "state_pairs_fault": "one other pairs"},
    "standing": {"alike_from": "one other", "played": "body choices", "tried": "run choices", "tried_within": "run answers"},
    "outcomes": {"counted": "body many", "numbered": "body many shows index", "index_of": "body history", "first_to": "body shows",
                 "is_finite": "body", "totals": "body"},
    "tables": {"entries": "work", "exits": "work function stack", "leaves": "work", "shown_by": "work history", "least_asks": "work shows",
               "way_out": "work shows", "unrolled": "work", "clauses_met": "work"},
    "rights": {"rights": "work", "rights_paper": "work", "rights_fault": "work paper"},
    "texts": {"body_text": "body", "handler_text": "handler", "read_body": "text", "read_handler": "text"},
}
CLASSES = {
    "bodies": {"Body": {"__init__": "operations rows start", "operations": "", "rows": "", "asked": "", "words": "", "hangs": "", "then": "others",
                        "start": None, "__getitem__": "index", "__contains__": "operation", "__len__": "", "__eq__": "other"}},
    "handlers": {"Handler": {"__init__": "handled further start clauses ends", "handled": "", "further": "", "clauses": "", "ends": "", "states": "",
                             "start": None, "__getitem__": "at", "__contains__": "operation", "__eq__": "other"}},
    "standing": {"Stand": {"__init__": "body", "__call__": "answer", "shows": None, "past": None, "__len__": "", "__eq__": "other"},
                 "Run": {"__init__": "body", "__call__": "most", "shows": None, "past": None, "go_on": "answer", "__getitem__": "at",
                         "__setitem__": "at worth", "__contains__": "operation", "__enter__": "", "__exit__": "kind value trace"}},
    "works": {"Work": {"__init__": "operations handlers functions", "operations": "", "handlers": "", "functions": "", "__eq__": "other"}},
}


def names_of(function):
    return list(inspect.signature(function).parameters)


class Interface(unittest.TestCase):
    def test_functions(self):
        for module, functions in FUNCTIONS.items():
            there = importlib.import_module("askfurther." + module)
            for name, arguments in functions.items():
                function = getattr(there, name)
                self.assertTrue(inspect.isfunction(function), name)
                self.assertEqual((function.__module__, names_of(function)), ("askfurther." + module, arguments.split()))
                for parameter in inspect.signature(function).parameters.values():
                    self.assertEqual((parameter.kind, parameter.default), (parameter.POSITIONAL_OR_KEYWORD, parameter.empty))

    def test_classes(self):
        for module, classes in CLASSES.items():
            there = importlib.import_module("askfurther." + module)
            for name, methods in classes.items():
                found = getattr(there, name)
                self.assertEqual((found.__module__, found.__mro__), ("askfurther." + module, (found, object)))
                for method, arguments in methods.items():
                    # Defined in the class itself, not only in a base class.
                    held = vars(found)[method]
                    if arguments is None:
                        self.assertIsInstance(held, property)
                        self.assertIsNone(held.fset)
                    else:
                        self.assertEqual(names_of(held)[1:], arguments.split())

    def test_start_of_a_body_is_told_by_name_alone(self):
        parameter = inspect.signature(vars(importlib.import_module("askfurther.bodies").Body)["__init__"]).parameters["start"]
        self.assertEqual((parameter.kind, parameter.default), (parameter.KEYWORD_ONLY, 0))

    def test_all_files_can_be_imported_alone(self):
        for path in sorted(FOLDER.glob("*.py")):
            importlib.import_module("askfurther" if path.stem == "__init__" else "askfurther." + path.stem)


if __name__ == "__main__":
    unittest.main()
