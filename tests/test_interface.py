"""The interface: every name stands where the document lists it, and the code keeps its form."""

import ast
import importlib
import inspect
import pathlib
import unittest

FUNCTIONS = {
    "terms": {"check_term": "signature value", "size_of": "term", "variables_of": "term", "row_variables": "row",
              "places_of": "term", "part_at": "term place", "replaced_at": "term place new",
              "term_order": "signature term", "row_order": "signature row"},
    "sides": {"turned": "signature term places", "least_writing": "signature term", "are_alike": "signature one two",
              "two_way_places": "signature term", "even_places": "signature term"},
    "turnings": {"count_turnings": "signature term", "turnings_of": "signature term",
                 "own_turnings": "signature term"},
    "fillings": {"fill_term": "term filling", "fill_row": "row filling", "composed": "one two"},
    "matching": {"matches_of": "signature pattern row", "is_case": "signature row pattern"},
    "tellings": {"least_telling": "signature row"},
    "trees": {"answers_of": "wishes lines", "tree_of": "wishes"},
    "solving": {"widest": "wishes", "meets": "wishes row", "clashes": "wishes"},
    "tellback": {"told_back": "book two_way pair"},
    "layers": {"parting": "one two"},
    "above": {"nearest_above": "signature rows"},
    "closedterms": {"closed_terms": "signature size", "count_closed": "signature size"},
    "closedrows": {"closed_row": "saying"},
    "kinds": {"pattern_parts": "signature patterns", "kind_of": "signature patterns term",
              "kinds_of": "signature patterns", "are_closed_kinds": "signature patterns kinds",
              "count_kinds": "signature patterns size"},
    "covers": {"coverage": "signature patterns"},
    "rules": {"steps_of": "rules term", "run_of": "rules term", "end_of": "rules term"},
    "meetings": {"meetings_of": "rules", "two_ends": "rules"},
    "completion": {"replay": "order equations lines", "complete": "order equations limit"},
    "partingworlds": {"parting_world": "signature one two given"},
    "kernel": {"conclusions": "signature axioms lines"},
    "deriving": {"derive_alike": "signature one two", "derive_end": "rules term"},
    "derivedrules": {"derive_closed": "signature equations one two", "derive_completion": "order equations lines"},
    "texts": {"format_term": "term", "parse_term": "signature text"},
    "notes": {"format_wishes": "wishes", "parse_wishes": "signature text"},
    "desks": {"perform": "desk script strict", "perform_within": "trial script strict"},
}
CLASSES = {
    "signatures": {"Signature": {"__init__": "symbols", "arity": "name", "rank": "name", "is_two_way": "name",
                                 "__eq__": "other"}},
    "shelves": {"Shelf": {"__init__": "signature", "put": "name numbers", "put_term": "term", "full_size": "number",
                          "uneven_count": "number", "even_count": "number", "parts": "number", "term": "number",
                          "filled": "number filling", "__len__": ""}},
    "wishes": {"Wishes": {"__init__": "signature asked pairs"}},
    "books": {"Book": {"__init__": "signature width rows", "within": "other", "nothing": "signature width",
                       "everything": "signature width", "__or__": "other", "__and__": "other", "__contains__": "row",
                       "__eq__": "other", "__len__": "", "__iter__": ""}},
    "sayings": {"Saying": {"__init__": "wishes", "is_met": "row", "__and__": "other", "__or__": "other",
                           "__invert__": ""}},
    "layers": {"Layers": {"__init__": "signature width books", "within": "other", "of": "saying", "__and__": "other",
                          "__or__": "other", "__sub__": "other", "__xor__": "other", "__invert__": "",
                          "__contains__": "row", "__eq__": "other"}},
    "covers": {"Coverage": {}},
    "orders": {"Order": {"__init__": "signature weights", "weight": "term", "compare": "s t"}},
    "rules": {"Rules": {"__init__": "order pairs"}},
    "completion": {"Completion": {}},
    "worlds": {"World": {"__init__": "signature size tables", "value": "term values", "counter": "pair",
                         "holds": "pair"}},
    "desks": {"Desk": {"__init__": "signature asked", "wish": "one two", "bar": "one two", "mark": "", "back": "mark"},
              "Trial": {"__init__": "desk", "__enter__": "", "__exit__": "kind value trace"}},
}
PROPERTIES = {("wishes", "Wishes"): ["helpers"], ("books", "Book"): ["is_empty"], ("sayings", "Saying"): ["lists"],
              ("layers", "Layers"): ["is_empty"], ("desks", "Desk"): ["deeds", "book", "layers"]}
CLASS_METHODS = {("books", "Book"): ["nothing", "everything"], ("layers", "Layers"): ["of"]}
KEYWORDS_ONLY = {"told_back": ["two_way", "pair"], "complete": ["limit"], "parting_world": ["given"],
                 "perform": ["strict"], "perform_within": ["strict"]}
DEFAULTS = {"parting_world": {"given": ()}, "perform": {"strict": False}, "perform_within": {"strict": False}}
PACKAGE = pathlib.Path(importlib.import_module("twowaysigns").__file__).parent
LIBRARY = ("heapq", "math", "itertools", "collections")


class InterfaceTest(unittest.TestCase):

    def test_functions_are_defined_in_their_files(self):
        for module, functions in FUNCTIONS.items():
            for name, parameters in functions.items():
                function = getattr(importlib.import_module(f"twowaysigns.{module}"), name)
                self.assertEqual(f"twowaysigns.{module}", function.__module__)
                found = inspect.signature(function).parameters
                self.assertEqual(parameters.split(), list(found), name)
                by_name = [key for key, parameter in found.items() if parameter.kind == parameter.KEYWORD_ONLY]
                self.assertEqual(KEYWORDS_ONLY.get(name, []), by_name, name)
                self.assertEqual(DEFAULTS.get(name, {}), {key: parameter.default for key, parameter in found.items()
                                                          if parameter.default is not parameter.empty}, name)

    def test_methods_are_defined_in_their_classes(self):
        for module, classes in CLASSES.items():
            for name, methods in classes.items():
                found = getattr(importlib.import_module(f"twowaysigns.{module}"), name)
                self.assertEqual(f"twowaysigns.{module}", found.__module__)
                for method, parameters in methods.items():
                    self.assertIn(method, vars(found))
                    function = getattr(vars(found)[method], "__func__", vars(found)[method])
                    self.assertEqual(parameters.split(), list(inspect.signature(function).parameters)[1:])

    def test_properties_and_class_methods(self):
        for kind, table in [(property, PROPERTIES), (classmethod, CLASS_METHODS)]:
            for (module, name), members in table.items():
                found = getattr(importlib.import_module(f"twowaysigns.{module}"), name)
                for member in members:
                    self.assertIsInstance(vars(found)[member], kind)


class FormTest(unittest.TestCase):

    def files(self):
        return sorted(path for path in PACKAGE.rglob("*") if path.is_file() and "__pycache__" not in path.parts)

    def test_files(self):
        for path in self.files():
            text = path.read_text(encoding="utf-8")
            self.assertEqual(".py", path.suffix)
            self.assertLessEqual(len(text.splitlines()), 399, path)
            self.assertEqual([], [sign for sign in text if sign != "\n" and not " " <= sign <= "~"], path)
            self.assertEqual([], [line for line in text.splitlines() if len(line) > 120], path)

    def test_functions(self):
        for path in self.files():
            for node in ast.walk(ast.parse(path.read_text(encoding="utf-8"))):
                if isinstance(node, ast.FunctionDef):
                    self.assertLessEqual(node.end_lineno - node.lineno + 1, 40, node.name)
                self.assertNotIsInstance(node, (ast.Global, ast.AsyncFunctionDef))

    def test_imports(self):
        for path in self.files():
            for node in ast.walk(ast.parse(path.read_text(encoding="utf-8"))):
                if isinstance(node, ast.ImportFrom) and node.module not in LIBRARY:
                    self.assertEqual("twowaysigns", node.module.split(".")[0], path)
                    for name in node.names:
                        self.assertIn(name.name, self.names_bound_in(PACKAGE / f"{node.module.split('.')[1]}.py"))

    def names_bound_in(self, path):
        """Return the names of the functions, classes and values that the file defines."""
        nodes = ast.parse(path.read_text(encoding="utf-8")).body
        names = [node.name for node in nodes if isinstance(node, (ast.FunctionDef, ast.ClassDef))]
        return names + [node.targets[0].id for node in nodes if isinstance(node, ast.Assign)]
