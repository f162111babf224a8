"""Rules of the language that are easy to break by chance: files, characters, sizes and imports."""

import ast
import pathlib
import unittest

PACKAGE = pathlib.Path(__file__).resolve().parent.parent / "loanpairs"


def files():
    return sorted(path for path in PACKAGE.rglob("*") if path.is_file() and "__pycache__" not in path.parts)


class Layout(unittest.TestCase):
    def test_only_python_files(self):
        self.assertGreater(len(files()), 0)
        for path in files():
            self.assertEqual(path.suffix, ".py", path)

    def test_each_folder_is_a_package(self):
        for folder in {path.parent for path in files()}:
            self.assertTrue((folder / "__init__.py").is_file(), folder)

    def test_sizes(self):
        for path in files():
            lines = path.read_text().split("\n")
            self.assertLessEqual(len(lines), 400, path)
            self.assertLessEqual(max(len(line) for line in lines), 120, path)
            for node in ast.walk(ast.parse(path.read_text())):
                if isinstance(node, ast.FunctionDef):
                    self.assertLessEqual(node.end_lineno - node.lineno + 1, 40, (path, node.name))

    def test_characters(self):
        for path in files():
            for sign in set(path.read_text()):
                self.assertTrue(sign == "\n" or " " <= sign <= "~", (path, sign))

    def test_imports(self):
        for path in files():
            for node in ast.walk(ast.parse(path.read_text())):
                self.assertNotIsInstance(node, ast.Import, path)
                if isinstance(node, ast.ImportFrom) and node.module == "heapq":
                    self.assertLessEqual({alias.name for alias in node.names}, {"heappop", "heappush"}, path)
                elif isinstance(node, ast.ImportFrom):
                    self.assertEqual((node.module.split(".")[0], node.level), ("loanpairs", 0), path)
                    source = PACKAGE.parent / (node.module.replace(".", "/") + ".py")
                    self.assertTrue(source.is_file(), node.module)

    def test_lengths(self):
        """Where something has an index or is iterated over, no length is that of a range."""
        found = 0
        for path in files():
            for node in ast.walk(ast.parse(path.read_text())):
                if isinstance(node, ast.FunctionDef) and node.name == "__len__":
                    found += 1
                    told = ast.unparse(node.body[-1])
                    self.assertTrue(told.startswith("return len("), path)
                    self.assertFalse(told.startswith("return len(range("), path)
        self.assertGreater(found, 5)


if __name__ == "__main__":
    unittest.main()
