"""Rules of the language that are easy to break by chance: files, characters, sizes and imports."""

import ast
import builtins
import pathlib
import unittest

PACKAGE = pathlib.Path(__file__).resolve().parent.parent / "loanpairs"


def files():
    return sorted(path for path in PACKAGE.rglob("*") if path.is_file() and "__pycache__" not in path.parts)


class Layout(unittest.TestCase):
    def test_only_python_files(self):
        self.assertGreater(len(files()), 0)
        for path in files():
            self.assertEqual(path.suffix, ".py", path)

    def test_each_folder_is_a_package(self):
        for folder in {path.parent for path in files()}:
            self.assertTrue((folder / "__init__.py").is_file(), folder)

    def test_sizes(self):
        for path in files():
            lines = path.read_text().split("\n")
            self.assertLessEqual(len(lines), 400, path)
            self.assertLessEqual(max(len(line) for line in lines), 120, path)
            for node in ast.walk(ast.parse(path.read_text())):
                if isinstance(node, ast.FunctionDef):
                    self.assertLessEqual(node.end_lineno - node.lineno + 1, 40, (path, node.name))

    def test_characters(self):
        for path in files():
            for sign in set(path.read_text()):
                self.assertTrue(sign == "\n" or " " <= sign <= "~", (path, sign))

    def test_imports(self):
        for path in files():
            for node in ast.walk(ast.parse(path.read_text())):
                self.assertNotIsInstance(node, ast.Import, path)
                if isinstance(node, ast.ImportFrom) and node.module == "heapq":
                    self.assertLessEqual({alias.name for alias in node.names}, {"heappop", "heappush"}, path)
                elif isinstance(node, ast.ImportFrom):
                    self.assertEqual((node.module.split(".")[0], node.level), ("loanpairs", 0), path)
                    source = PACKAGE.parent / (node.module.replace(".", "/") + ".py")
                    self.assertTrue(source.is_file(), node.module)

    def test_names_of_imports_and_classes(self):
        """They have one meaning in their file, and each import is used."""
        for path in files():
            tree = ast.parse(path.read_text())
            imported = {alias.name for node in tree.body if isinstance(node, ast.ImportFrom) for alias in node.names}
            classes = {node.name for node in tree.body if isinstance(node, ast.ClassDef)}
            names = [node for node in ast.walk(tree) if isinstance(node, ast.Name)]
            assigned = {node.id for node in names if isinstance(node.ctx, ast.Store)}
            assigned |= {node.arg for node in ast.walk(tree) if isinstance(node, ast.arg)}
            self.assertEqual(assigned & (imported | classes), set(), path)
            self.assertEqual(imported - {node.id for node in names}, set(), path)
            self.assertEqual(assigned & set(dir(builtins)), set(), path)

    def test_what_is_not_used(self):
        """No lambdas, generator expressions, augmented assignments and stars over calls."""
        for path in files():
            for node in ast.walk(ast.parse(path.read_text())):
                self.assertNotIsInstance(node, (ast.Lambda, ast.GeneratorExp, ast.AugAssign, ast.Global, ast.With), path)
                if isinstance(node, ast.Call):
                    for given in node.args:
                        if isinstance(given, ast.Starred):
                            self.assertIsInstance(given.value, (ast.Name, ast.Attribute), path)

    def test_lengths(self):
        """Where something has an index or is iterated over, no length is that of a range."""
        found = 0
        for path in files():
            for node in ast.walk(ast.parse(path.read_text())):
                if isinstance(node, ast.FunctionDef) and node.name == "__len__":
                    found += 1
                    told = ast.unparse(node.body[-1])
                    self.assertTrue(told.startswith("return len("), path)
                    self.assertFalse(told.startswith("return len(range("), path)
        self.assertGreater(found, 5)


if __name__ == "__main__":
    unittest.main()
