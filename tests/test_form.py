"""The form of the package: its files, their sizes, what they import, and where the interface is defined."""

import ast
import importlib
import inspect
import pathlib
import unittest

FOLDER = pathlib.Path(__file__).resolve().parent.parent / "standviews"
# How many arguments each takes.
INTERFACE = {
    "plans": {"is_plan": 1, "is_row": 3},
    "checks": {"is_check": 2, "holds": 3},
    "stores": {"empty": 1, "dealt": 3, "net": 3},
    "questions": {"is_question": 2, "columns_of": 2},
    "answers": {"answer": 3},
    "rights": {"is_right": 3, "seen": 3},
    "showing": {"show_worth": 1, "show_bag": 1, "show_question": 1, "show_right": 1, "show_entry": 1},
    "parts": {"under": 3, "parts_of": 1},
    "bags": {"changed": 2, "between": 2, "joined": 2},
    "reading": {"read_question": 1, "read_right": 1, "read_entry": 2},
    "papers": {"paper": 2, "shows_paper": 3},
}
# How many arguments each class, and each of its methods, takes by their places.
CLASSES = {
    "pieces": ("Pieces", 2, {"need": 1, "leave": 1, "move": 1, "bag": 1, "last": 1, "works": 0, "total": 0,
                             "__len__": 0}),
    "lines": ("Line", 2, {"put": 2, "number": 0, "bags": 0, "since": 1, "moments": 0}),
    "glasses": ("Glass", 3, {"hear": 1, "mark": 0, "rows": 0, "say": 0, "cut": 0}),
    "roads": ("Road", 0, {"put": 1, "letters": 0, "bring": 1, "lose": 1, "double": 1}),
    "houses": ("House", 1, {"deal": 1, "right": 3, "watch": 2, "end": 1, "moment": 0, "store": 0, "rights": 1,
                            "watchers": 0, "line": 1, "works": 0, "total": 0, "mark": 1, "beat": 1, "heard": 1,
                            "turn": 1, "written": 0, "fold": 0, "begun": 0, "past": 1}),
    "scenes": ("Scene", 1, {"step": 1, "walk": 1, "house": 0, "glass": 1, "road": 1, "back": 1, "rounds": 1}),
    "desk": ("Desk", 1, {"say": 1, "say_all": 1, "log": 0}),
}
# What goes by its name alone, each with the constant that it is where it is left out.
BY_NAME = (("lines", "Line", {"kept": ("lines", "KEPT")}), ("roads", "Road", {"room": ("roads", "ROOM")}),
           ("houses", "House", {"kept": ("lines", "KEPT")}), ("coming", "come_up", {"kept": ("lines", "KEPT")}),
           ("scenes", "Scene", {"kept": ("lines", "KEPT"), "room": ("roads", "ROOM")}))


class Files(unittest.TestCase):
    def setUp(self):
        self.texts = {path.name: path.read_text("utf-8") for path in sorted(FOLDER.glob("*.py"))}

    def test_the_folder_holds_nothing_else(self):
        found = {path.name for path in FOLDER.iterdir()} - {"__pycache__"}
        self.assertEqual(found, set(self.texts))
        self.assertIn("__init__.py", found)

    def test_characters_and_sizes(self):
        for name, text in self.texts.items():
            with self.subTest(name):
                self.assertTrue(all(sign == "\n" or " " <= sign <= "~" for sign in text))
                self.assertLessEqual(len(text.splitlines()), 399)
                self.assertLessEqual(max(len(line) for line in text.splitlines()), 120)

    def test_functions_have_at_most_forty_lines(self):
        for name, text in self.texts.items():
            for node in ast.walk(ast.parse(text)):
                if isinstance(node, ast.FunctionDef):
                    with self.subTest(f"{name}: {node.name}"):
                        self.assertLessEqual(node.end_lineno - node.lineno + 1, 40)

    def test_imports_are_of_the_package_and_name_the_file_that_defines(self):
        for name, text in self.texts.items():
            for node in ast.walk(ast.parse(text)):
                self.assertNotIsInstance(node, ast.Import)
                if isinstance(node, ast.ImportFrom):
                    with self.subTest(f"{name}: {node.module}"):
                        self.assertTrue(node.module.startswith("standviews."))
                        self.check_defined(node.module.partition(".")[2], [told.name for told in node.names])

    def check_defined(self, module, names):
        defined = set()
        for node in ast.parse(self.texts[module + ".py"]).body:
            if isinstance(node, (ast.FunctionDef, ast.ClassDef)):
                defined.add(node.name)
            elif isinstance(node, ast.Assign):
                defined.add(node.targets[0].id)
        self.assertLessEqual(set(names), defined)


class Interface(unittest.TestCase):
    def test_functions_are_defined_where_the_interface_lists_them(self):
        for module, functions in INTERFACE.items():
            for name, many in functions.items():
                with self.subTest(f"{module}: {name}"):
                    function = getattr(importlib.import_module(f"standviews.{module}"), name)
                    self.assertEqual(function.__module__, f"standviews.{module}")
                    self.assertEqual(len(inspect.signature(function).parameters), many)

    def test_classes_are_defined_there_with_their_methods_in_their_own_bodies(self):
        for module, (name, many, methods) in CLASSES.items():
            made = getattr(importlib.import_module(f"standviews.{module}"), name)
            with self.subTest(f"{module}: {name}"):
                self.assertEqual(made.__module__, f"standviews.{module}")
                self.assertEqual(self.by_place(made), many)
            for method, takes in methods.items():
                with self.subTest(f"{name}: {method}"):
                    self.assertIn(method, vars(made))
                    self.assertEqual(self.by_place(vars(made)[method]), takes + 1)

    def by_place(self, function):
        kinds = [parameter.kind for parameter in inspect.signature(function).parameters.values()]
        return kinds.count(inspect.Parameter.POSITIONAL_OR_KEYWORD)

    def test_what_goes_by_its_name_alone(self):
        for module, name, constants in BY_NAME:
            with self.subTest(f"{module}: {name}"):
                told = getattr(importlib.import_module(f"standviews.{module}"), name)
                self.by_name(told, {given: getattr(importlib.import_module(f"standviews.{other}"), constant)
                                    for given, (other, constant) in constants.items()})

    def by_name(self, function, constants):
        parameters = inspect.signature(function).parameters.values()
        named = {each.name: each.default for each in parameters if each.kind == inspect.Parameter.KEYWORD_ONLY}
        self.assertEqual(named, constants)

    def test_come_up_and_say_all(self):
        coming, desk = importlib.import_module("standviews.coming"), importlib.import_module("standviews.desk")
        self.assertEqual((coming.come_up.__module__, self.by_place(coming.come_up)), ("standviews.coming", 2))
        self.by_name(desk.Desk.say_all, {"keep": desk.KEEP})


if __name__ == "__main__":
    unittest.main()
