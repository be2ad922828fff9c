"""The rules of the language that are plain to check: sizes, signs, imports and words."""

import ast
import pathlib
import re
import unittest

PACKAGE = pathlib.Path(__file__).resolve().parent.parent / "pulseshare"
BARRED = ("float", "global", "open", "input", "print", "eval", "exec", "hash", "id", "map")


def package_files():
    return sorted(PACKAGE.rglob("*.py"))


class LanguageTest(unittest.TestCase):
    def test_there_are_files(self):
        names = [path.name for path in package_files()]
        wanted = ("errors.py", "frames.py", "notes.py", "rooms.py", "runs.py", "streams.py")
        for name in ("__init__.py",) + wanted:
            self.assertIn(name, names)

    def test_sizes_and_signs(self):
        for path in package_files():
            text = path.read_bytes().decode("ascii")
            rows = text.split("\n")
            self.assertLessEqual(len(rows) - 1, 399, path.name)
            for at, row in enumerate(rows, 1):
                self.assertLessEqual(len(row), 120, (path.name, at))
                self.assertRegex(row, r"\A[ -~]*\Z", (path.name, at))

    def test_functions_are_short(self):
        for path in package_files():
            for node in ast.walk(ast.parse(path.read_text())):
                if isinstance(node, ast.FunctionDef):
                    many = node.end_lineno - node.lineno + 1
                    self.assertLessEqual(many, 40, (path.name, node.name))

    def test_only_the_package_is_imported(self):
        for path in package_files():
            for node in ast.walk(ast.parse(path.read_text())):
                if path.name != "__main__.py":
                    self.assertNotIsInstance(node, ast.Import, path.name)
                if isinstance(node, ast.ImportFrom):
                    self.assertEqual(node.level, 0, path.name)
                    self.assertRegex(node.module, r"\A(pulseshare\.|__future__\Z)")

    def test_no_clock_chance_or_files(self):
        for path in package_files():
            if path.name == "__main__.py":
                continue
            for node in ast.walk(ast.parse(path.read_text())):
                if isinstance(node, ast.Name):
                    self.assertNotIn(node.id, BARRED, (path.name, node.lineno))

    def test_barred_words_do_not_occur(self):
        words = r"\b(type|typing|enum|Enum|Flag|Generic|Protocol|ABC|namedtuple|NamedTuple)\b|dataclass"
        for path in package_files():
            self.assertIsNone(re.search(words, path.read_text()), path.name)


if __name__ == "__main__":
    unittest.main()
