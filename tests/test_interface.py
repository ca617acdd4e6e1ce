"""The interface of the document: what is defined in which file, with which arguments."""

import ast
import pathlib
import unittest

PACKAGE = pathlib.Path(__file__).resolve().parent.parent / "fillbooks"

FUNCTIONS = {
    "terms.py": {"check_term": ["term"], "variables_in": ["term"], "put": ["term", "ways"]},
    "unifying.py": {"unified": ["pairs"]},
    "books.py": {"check_rule": ["rule"], "check_book": ["book"], "relations": ["book"]},
    "texts.py": {"term_text": ["term"], "read_term": ["text"], "rule_text": ["rule"], "read_rule": ["text"], "book_text": ["book"]},
    "filling.py": {"fill": ["book", "store"], "lays": ["rule", "store"]},
    "comparing.py": {"never_more": ["one", "other"], "alike": ["one", "other"], "parting": ["one", "other"]},
    "forms.py": {"least_form": ["book"], "reach": ["book"]},
    "joining.py": {"fill_row": ["books", "store"], "joined": ["one", "other"], "row": ["books"], "identity": ["relations"]},
    "plain.py": {"is_plain": ["book"], "leads_into": ["one", "other"], "lead_both_ways": ["one", "other"],
                 "no_lead": ["one", "other"]},
    "questions.py": {"asked": ["question", "books"], "sure": ["book", "store"], "sure_form": ["book"],
                     "never_surer": ["one", "other"]},
    "behind.py": {"behind": ["one", "whole"], "no_behind": ["one", "whole"], "had_again": ["book", "relation"]},
    "reasons.py": {"reasons": ["book", "store", "fact"], "needless": ["book", "store"],
                   "changes": ["book", "store", "come", "go"]},
}


class TestInterface(unittest.TestCase):
    def test_functions(self):
        for name, wanted in FUNCTIONS.items():
            rows = ast.parse((PACKAGE / name).read_text(encoding="utf-8")).body
            found = {row.name: [arg.arg for arg in row.args.args] for row in rows if isinstance(row, ast.FunctionDef)}
            for function, arguments in wanted.items():
                with self.subTest(file=name, function=function):
                    self.assertEqual(found.get(function), arguments)


if __name__ == "__main__":
    unittest.main()
