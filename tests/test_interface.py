"""The interface of the document: what is defined in which file, with which arguments."""

import ast
import pathlib
import unittest

PACKAGE = pathlib.Path(__file__).resolve().parent.parent / "fillbooks"

FUNCTIONS = {
    "terms.py": {"check_term": ["term"], "variables_in": ["term"], "put": ["term", "ways"]},
    "unifying.py": {"unified": ["pairs"]},
}


class TestInterface(unittest.TestCase):
    def test_functions(self):
        for name, wanted in FUNCTIONS.items():
            rows = ast.parse((PACKAGE / name).read_text(encoding="utf-8")).body
            found = {row.name: [arg.arg for arg in row.args.args] for row in rows if isinstance(row, ast.FunctionDef)}
            for function, arguments in wanted.items():
                with self.subTest(file=name, function=function):
                    self.assertEqual(found.get(function), arguments)


if __name__ == "__main__":
    unittest.main()
