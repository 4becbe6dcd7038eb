"""The rules of the language that a file shows by itself: size, signs, imports, names of functions and methods."""

import ast
import builtins
import inspect
import unittest
from importlib import import_module
from pathlib import Path

from linkless import errors

FOLDER = Path(__file__).resolve().parent.parent / "linkless"
FILES = sorted(FOLDER.rglob("*.py"))
BUILTINS = set("""len range enumerate zip min max sum abs sorted reversed int str bool list tuple dict set isinstance
    ord repr any all divmod type super ValueError""".split())
METHODS = set("""append clear copy count endswith extend find get index insert isdigit items join keys pop remove
    replace reverse setdefault sort split startswith strip update values bit_length add discard""".split())
BARRED = (ast.AsyncFunctionDef, ast.ClassDef, ast.Global, ast.Nonlocal, ast.With, ast.Div, ast.Yield, ast.YieldFrom,
          ast.Import)
SIGNATURES = {
    "graphs": {"is_graph": ["value"], "components": ["graph"], "cycles": ["graph"], "cycle_pairs": ["graph"],
               "edge_pairs": ["graph"]},
    "changes": {"without_edge": ["graph", "edge"], "without_vertex": ["graph", "vertex"],
                "contracted": ["graph", "edge"], "cone": ["graph"], "claw_for": ["graph", "triangle"],
                "triangle_for": ["graph", "vertex"]},
    "texts": {"show_graph": ["graph"], "read_graph": ["text"]},
    "minors": {"family": ["level"], "is_model": ["graph", "other", "value"], "minor": ["graph", "level"]},
    "planes": {"paths_of": ["graph"], "is_laying": ["graph", "value"], "rotation_of": ["graph"],
               "outer_rotation": ["graph"], "is_flat": ["graph", "value"], "is_outer": ["graph", "value"],
               "walks_of": ["graph", "rotation"]},
    "crossings": {"odd_crossings": ["graph", "moves"], "moves_of": ["graph"], "crossing_witness": ["graph"],
                  "is_crossing_witness": ["graph", "value"]},
    "links": {"odd_links": ["graph", "passes"], "passes_of": ["graph"], "linking_witness": ["graph"],
              "is_linking_witness": ["graph", "value"]},
    "levels": {"is_of_level": ["graph", "level"], "least_level": ["graph"], "most_edges": ["level", "vertices"],
               "apexes": ["graph"], "is_critical": ["graph", "level"]},
    "checker": {"accepts": ["claim", "paper"]},
    "certificates": {"certify_level": ["graph", "level"], "certify_crossing": ["graph"], "certify_linking": ["graph"]},
    "console": {"fresh_console": [], "said": ["console", "line"], "told_all": ["console", "lines"]}}


def nodes(file, *kinds):
    return [node for node in ast.walk(ast.parse(file.read_text("ascii"))) if isinstance(node, kinds)]


class LanguageTest(unittest.TestCase):
    def test_size_and_signs(self):
        for file in FILES:
            rows = file.read_text("ascii").split("\n")
            self.assertLess(len(rows), 400, file.name)
            for row in rows:
                self.assertLessEqual(len(row), 120, row)
                self.assertTrue(all(" " <= sign <= "~" for sign in row), row)
            for function in nodes(file, ast.FunctionDef):
                self.assertLessEqual(function.end_lineno - function.lineno + 1, 40, function.name)
                self.assertEqual(function.decorator_list, [])

    def test_imports_are_of_the_package(self):
        for file in FILES:
            for node in nodes(file, ast.ImportFrom):
                self.assertEqual((node.module.split(".")[0], node.level), ("linkless", 0), file.name)

    def test_only_plain_statements(self):
        for file in FILES:
            barred = [kind for kind in BARRED if kind is not ast.ClassDef or file.name != "errors.py"]
            self.assertEqual(nodes(file, *barred), [], file.name)
            for node in nodes(file, ast.Constant):
                self.assertNotIsInstance(node.value, (float, complex))

    def test_only_errors_of_the_package_are_caught(self):
        for file in FILES:
            for handler in nodes(file, ast.ExceptHandler):
                named = getattr(handler.type, "elts", [handler.type])
                self.assertLessEqual({name.id for name in named}, vars(errors).keys() - {"ValueError"}, file.name)
            for node in nodes(file, ast.Try):
                self.assertEqual(node.finalbody + node.orelse, [], file.name)

    def test_no_name_has_two_meanings(self):
        for file in FILES:
            imported = [name.name for node in nodes(file, ast.ImportFrom) for name in node.names]
            top = [node.name for node in ast.parse(file.read_text("ascii")).body
                   if isinstance(node, (ast.FunctionDef, ast.ClassDef))]
            self.assertEqual(len(set(imported + top)), len(imported + top), file.name)
            inner = {node.id for node in nodes(file, ast.Name) if isinstance(node.ctx, ast.Store)}
            inner |= {node.arg for node in nodes(file, ast.arg)}
            self.assertEqual(inner & set(imported + top), set(), file.name)
            self.assertEqual(inner & set(dir(builtins)), set(), file.name)
            used = {node.id for node in nodes(file, ast.Name)}
            self.assertLessEqual(set(imported), used, file.name)

    def test_no_two_files_import_from_each_other(self):
        imports = {file.stem: {node.module.split(".")[1] for node in nodes(file, ast.ImportFrom)} for file in FILES}
        while imports:
            free = [name for name, others in imports.items() if not others & imports.keys()]
            self.assertTrue(free, imports)
            imports = {name: others for name, others in imports.items() if name not in free}

    def test_only_known_functions_and_methods(self):
        for file in FILES:
            own = {node.name for node in nodes(file, ast.FunctionDef, ast.ClassDef)}
            own |= {name.name for node in nodes(file, ast.ImportFrom) for name in node.names}
            # What a table holds is called by a name that it is given first.
            own |= {node.targets[0].id for node in nodes(file, ast.Assign)
                    if isinstance(node.value, ast.Subscript) and isinstance(node.targets[0], ast.Name)}
            for call in nodes(file, ast.Call):
                if isinstance(call.func, ast.Name):
                    self.assertIn(call.func.id, own | BUILTINS, file.name)
                elif call.func.attr != "__init__":
                    self.assertIn(call.func.attr, METHODS, file.name)

    def test_the_interface_stands_where_it_is_listed(self):
        for name, functions in SIGNATURES.items():
            module = import_module("linkless." + name)
            for function, parameters in functions.items():
                found = getattr(module, function)
                self.assertEqual(found.__module__, "linkless." + name)
                self.assertEqual(list(inspect.signature(found).parameters), parameters)


if __name__ == "__main__":
    unittest.main()
