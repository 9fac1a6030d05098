"""What of the rules for the package's files can be read off them by simple means."""

import ast
import pathlib
import re
import unittest

import twigfinds

FOLDER = pathlib.Path(twigfinds.__file__).parent
BARRED = {"type", "typing", "typing_extensions", "enum", "Enum", "IntEnum", "StrEnum", "Flag", "IntFlag", "Generic",
          "Protocol", "ABC", "ABCMeta", "namedtuple", "NamedTuple", "TypedDict", "TYPE_CHECKING", "abstractmethod"}


class Written(unittest.TestCase):
    def setUp(self):
        self.texts = {path.name: path.read_text() for path in sorted(FOLDER.glob("*.py"))}

    def test_files(self):
        others = [path.name for path in FOLDER.iterdir() if path.suffix != ".py" and path.name != "__pycache__"]
        self.assertEqual(others, [])
        self.assertIn("__init__.py", self.texts)

    def test_signs_and_sizes(self):
        for name, text in self.texts.items():
            self.assertTrue(all(" " <= sign <= "~" or sign == "\n" for sign in text), name)
            rows = text.splitlines()
            self.assertLessEqual(len(rows), 400, name)
            self.assertLessEqual(max(len(row) for row in rows), 120, name)
            self.assertEqual(BARRED & set(re.findall(r"\w+", text)), set(), name)

    def test_functions_are_short(self):
        for name, text in self.texts.items():
            for node in ast.walk(ast.parse(text)):
                if isinstance(node, ast.FunctionDef):
                    self.assertLessEqual(node.end_lineno - node.lineno + 1, 40, (name, node.name))

    def test_imports_are_the_packages_own(self):
        for name, text in self.texts.items():
            for node in ast.walk(ast.parse(text)):
                self.assertNotIsInstance(node, ast.Import, name)
                if isinstance(node, ast.ImportFrom):
                    self.assertTrue(node.module.startswith("twigfinds."), (name, node.module))
