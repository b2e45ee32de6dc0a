"""The interface's names and arguments, and the form of the package's files."""

import ast
import pathlib
import unittest

PACKAGE = pathlib.Path(__file__).resolve().parent.parent / "openties"

FUNCTIONS = {
    "schemas.py": {
        "is_schema": ["value"],
        "closure": ["schema", "columns"],
        "is_table": ["schema", "value"],
        "alike_table": ["schema", "columns", "count"],
    },
    "reports.py": {"is_report": ["schema", "value"], "kept_columns": ["schema", "report"]},
    "runs.py": {
        "run": ["schema", "report", "table", "script"],
        "first_script": ["schema", "report", "table"],
    },
    "knowledge.py": {
        "is_knowledge": ["schema", "value"],
        "start_knowledge": ["schema"],
        "knowledge_after": ["schema", "knowledge", "step"],
        "derive": ["schema", "report"],
        "is_settled": ["schema", "report"],
    },
    "derivations.py": {
        "is_weaker": ["knowledge", "other"],
        "is_derivation": ["schema", "report", "value"],
        "find_derivation": ["schema", "report"],
    },
    "witnesses.py": {"is_witness": ["schema", "report", "value"], "find_witness": ["schema", "report"]},
    "mends.py": {
        "is_mend": ["schema", "report", "value"],
        "mended": ["report", "mend"],
        "find_mend": ["schema", "report"],
    },
    "pages.py": {
        "page": ["outcome", "n", "k"],
        "joined": ["schema", "report", "n", "table", "scripts"],
        "is_lossless": ["schema", "report", "n"],
        "find_loss": ["schema", "report", "n"],
    },
    "outcomes.py": {
        "outcomes": ["schema", "report", "table"],
        "find_difference": ["schema", "report", "table"],
        "script_for": ["schema", "report", "table", "outcome"],
    },
    "choosers.py": {"play": ["schema", "report", "table", "choose"]},
    "keys.py": {
        "minimal_keys": ["schema"],
        "are_equivalent": ["schema", "other"],
        "find_table": ["schema", "other"],
    },
}

METHODS = {
    "insert": ["row"],
    "delete": ["index"],
    "add": ["name", "report"],
    "drop": ["name"],
    "undo": [],
    "table": [],
    "names": [],
    "report": ["name"],
    "outcome": ["name"],
    "is_settled": ["name"],
    "open_reports": [],
}

ERRORS = ["OpentiesError", "InvalidIndex", "InvalidName", "NameInUse", "OfficeFull", "NoTable", "InvalidScript",
          "NoRun", "InvalidRow", "InvalidReport"]


def parsed(name):
    return ast.parse((PACKAGE / name).read_text("ascii"))


class TestForm(unittest.TestCase):
    def test_functions_are_defined_in_their_files(self):
        for name, functions in FUNCTIONS.items():
            found = {
                part.name: [argument.arg for argument in part.args.args]
                for part in parsed(name).body
                if isinstance(part, ast.FunctionDef) and part.name in functions
            }
            self.assertEqual(found, functions, name)

    def test_methods_are_defined_in_their_class(self):
        office, = [part for part in parsed("office.py").body
                   if isinstance(part, ast.ClassDef) and part.name == "Office"]
        found = {
            part.name: [argument.arg for argument in part.args.args]
            for part in office.body
            if isinstance(part, ast.FunctionDef) and not part.name.startswith("_")
        }
        self.assertEqual(found, {name: ["self", *arguments] for name, arguments in METHODS.items()})
        special = [part.name for part in office.body if isinstance(part, ast.FunctionDef)]
        self.assertTrue({"__init__", "__eq__"} <= set(special))

    def test_errors_are_defined_in_their_file(self):
        found = [part.name for part in parsed("errors.py").body if isinstance(part, ast.ClassDef)]
        self.assertEqual(sorted(found), sorted(ERRORS))

    def test_the_folder_holds_nothing_but_files_of_the_program(self):
        found = [path.name for path in PACKAGE.iterdir() if path.name != "__pycache__"]
        self.assertIn("__init__.py", found)
        self.assertEqual([name for name in found if not name.endswith(".py")], [])

    def test_sizes_and_characters(self):
        for path in PACKAGE.glob("*.py"):
            lines = path.read_text("ascii").split("\n")
            self.assertLess(len(lines), 400, path.name)
            for number, line in enumerate(lines, start=1):
                self.assertTrue(len(line) <= 120 and (line.isprintable()), (path.name, number))
            for part in ast.walk(parsed(path.name)):
                if isinstance(part, ast.FunctionDef):
                    self.assertLessEqual(part.end_lineno - part.lineno + 1, 40, (path.name, part.name))

    def test_imports(self):
        for path in PACKAGE.glob("*.py"):
            for part in ast.walk(parsed(path.name)):
                self.assertNotIsInstance(part, ast.Import, path.name)
                if isinstance(part, ast.ImportFrom):
                    self.assertTrue(part.module.startswith("openties."), (path.name, part.module))
