"""The form of the package: its files, and the sizes of files, lines and functions."""

import ast
import pathlib
import unittest

PACKAGE = pathlib.Path(__file__).resolve().parent.parent / "guanaco"
FILES = sorted(PACKAGE.glob("*.py"))


class Layout(unittest.TestCase):
    def test_only_python_files(self):
        others = [path.name for path in PACKAGE.iterdir() if path.suffix != ".py" and path.name != "__pycache__"]
        self.assertEqual(others, [])
        self.assertIn("__init__.py", [path.name for path in FILES])

    def test_sizes(self):
        for path in FILES:
            text = path.read_text(encoding="ascii")
            lines = text.split("\n")
            self.assertLessEqual(len(lines), 400, path.name)
            self.assertLessEqual(max(len(line) for line in lines), 120, path.name)
            self.assertNotIn("\t", text, path.name)
            for node in ast.walk(ast.parse(text)):
                if isinstance(node, ast.FunctionDef):
                    self.assertLessEqual(node.end_lineno - node.lineno + 1, 40, (path.name, node.name))

    def test_attributes_are_assigned_through_local_names(self):
        for path in FILES:
            tree = ast.parse(path.read_text())
            top = [name.id for node in tree.body if isinstance(node, ast.Assign) for name in node.targets]
            top += [node.name for node in tree.body if isinstance(node, ast.ClassDef)]
            for node in ast.walk(tree):
                if isinstance(node, ast.Attribute) and not isinstance(node.ctx, ast.Load):
                    self.assertIsInstance(node.value, ast.Name, (path.name, node.lineno))
                    self.assertNotIn(node.value.id, top, (path.name, node.lineno))

    def test_imports(self):
        """Only full names of the package are imported, and no two files import from each other."""
        imports = {}
        for path in FILES:
            found = imports.setdefault(path.stem, [])
            for node in ast.walk(ast.parse(path.read_text())):
                self.assertNotIsInstance(node, ast.Import, path.name)
                if isinstance(node, ast.ImportFrom):
                    self.assertTrue(node.module.startswith("guanaco."), path.name)
                    found.append(node.module.partition(".")[2])
        done = []
        while len(done) < len(imports):
            ready = [name for name in imports if name not in done and all(other in done for other in imports[name])]
            self.assertTrue(ready, "files import from each other")
            done.extend(ready)


if __name__ == "__main__":
    unittest.main()
