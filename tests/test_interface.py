"""The interface of the document: what is defined in which file, with which arguments, passed by their names in any order."""

import ast
import importlib
import itertools
import pathlib
import unittest

from fillbooks.desk import Desk
from fillbooks.errors import FillError
from fillbooks.values import Book
from helpers import facts, rules

PACKAGE = pathlib.Path(__file__).resolve().parent.parent / "fillbooks"

FUNCTIONS = {
    "terms": {"check_term": ["term"], "variables_in": ["term"], "put": ["term", "ways"]},
    "unifying": {"unified": ["pairs"]},
    "books": {"check_rule": ["rule"], "check_book": ["book"], "relations": ["book"]},
    "texts": {"term_text": ["term"], "read_term": ["text"], "rule_text": ["rule"], "read_rule": ["text"], "book_text": ["book"]},
    "filling": {"fill": ["book", "store"], "lays": ["rule", "store"]},
    "comparing": {"never_more": ["one", "other"], "alike": ["one", "other"], "parting": ["one", "other"]},
    "forms": {"least_form": ["book"], "reach": ["book"]},
    "joining": {"fill_row": ["books", "store"], "joined": ["one", "other"], "row": ["books"], "identity": ["relations"]},
    "plain": {"is_plain": ["book"], "leads_into": ["one", "other"], "lead_both_ways": ["one", "other"], "no_lead": ["one", "other"]},
    "questions": {"asked": ["question", "books"], "sure": ["book", "store"], "sure_form": ["book"], "never_surer": ["one", "other"]},
    "behind": {"behind": ["one", "whole"], "no_behind": ["one", "whole"], "had_again": ["book", "relation"]},
    "reasons": {"reasons": ["book", "store", "fact"], "needless": ["book", "store"], "changes": ["book", "store", "come", "go"]},
    "told": {"clash": ["pairs"], "surely": ["pairs", "store"]},
    "papers": {"paper_text": ["store", "books"], "read_paper": ["text"]},
    "desk": {"try_all": ["desk", "deeds"]},
}
METHODS = {
    ("values", "Book"): {"__init__": ["rules"], "rules": [], "__call__": ["store"], "__rshift__": 1, "__or__": 1, "__eq__": 1, "__len__": [],
                         "__iter__": [], "__contains__": 1, "within": ["other"], "least": []},
    ("desk", "Desk"): {"__init__": ["store", "books"], "store": [], "books": [], "put": ["fact"], "strike": ["fact"],
                       "exchange": ["number", "book"], "undo": [], "redo": [], "told": [], "sure": [], "trial": [], "__len__": [], "__contains__": 1},
}
PROPERTIES = {("values", "Book"): ["rules"], ("desk", "Desk"): ["store", "books"]}

BOOK, STORE = rules("p(X, Y) -> q(X)"), facts("p(a, b)", "p(b, b)")
TERM = ("f", ("X", ("a", ())))
GIVEN = {"term": TERM, "ways": {"X": "Y"}, "pairs": [(TERM, "Y")], "rule": BOOK[0], "book": BOOK, "store": STORE, "one": BOOK, "other": rules("p(X, X) -> q(X)"),
         "books": [BOOK], "relations": [("p", 2)], "question": rules("q(X) -> ans(X)"), "whole": rules("p(X, Y) -> t(X)"), "relation": ("p", 2),
         "fact": facts("q(a)")[0], "come": facts("p(c, c)"), "go": STORE[:1]}
SPECIAL = {"read_term": {"text": "f(X, a)"}, "read_rule": {"text": "p(X) -> q(X)"}, "read_paper": {"text": "book\n"},
           "clash": {"pairs": [(STORE, facts("q(a)"))]}, "surely": {"pairs": [(STORE, facts("q(a)"))]}}


def tree(name):
    return ast.parse((PACKAGE / f"{name}.py").read_text(encoding="utf-8")).body


class TestInterface(unittest.TestCase):
    def test_functions(self):
        for name, wanted in FUNCTIONS.items():
            found = {row.name: [arg.arg for arg in row.args.args] for row in tree(name) if isinstance(row, ast.FunctionDef)}
            for function, arguments in wanted.items():
                with self.subTest(file=name, function=function):
                    self.assertEqual(found.get(function), arguments)

    def test_methods(self):
        for (name, kind), wanted in METHODS.items():
            body = [row for row in tree(name) if isinstance(row, ast.ClassDef) and row.name == kind][0].body
            found = {row.name: row for row in body if isinstance(row, ast.FunctionDef)}
            for method, arguments in wanted.items():
                with self.subTest(kind=kind, method=method):
                    own = [arg.arg for arg in found[method].args.args][1:]
                    self.assertEqual(len(own) if isinstance(arguments, int) else own, arguments)
                    decorators = [ast.unparse(row) for row in found[method].decorator_list]
                    self.assertEqual(decorators, ["property"] if method in PROPERTIES[name, kind] else [])

    def test_functions_by_names_in_any_order(self):
        for name, wanted in FUNCTIONS.items():
            for function, arguments in wanted.items():
                if function == "try_all":
                    continue
                call = getattr(importlib.import_module(f"fillbooks.{name}"), function)
                given = {word: SPECIAL.get(function, {}).get(word, GIVEN.get(word)) for word in arguments}
                told = call(*[given[word] for word in arguments])
                for order in itertools.permutations(arguments):
                    with self.subTest(function=function, order=order):
                        self.assertEqual(call(**{word: given[word] for word in order}), told)

    def test_methods_by_names_in_any_order(self):
        for order in itertools.permutations([("store", STORE), ("books", [BOOK, ()])]):
            self.assertEqual(Desk(**dict(order)).store, STORE)
        desk = Desk(STORE, [BOOK, ()])
        for order in itertools.permutations([("number", 1), ("book", BOOK)]):
            desk.exchange(**dict(order))
            self.assertEqual(desk.books, [BOOK, BOOK])
            desk.undo()
        desk.put(fact=facts("r(a)")[0])
        desk.strike(fact=facts("r(a)")[0])
        module = importlib.import_module("fillbooks.desk")
        for order in itertools.permutations([("desk", desk), ("deeds", [("put", facts("r(a)")[0]), ("undo",)])]):
            self.assertIsNone(module.try_all(**dict(order)))
        self.assertEqual(Book(rules=BOOK)(store=STORE), facts("q(a)", "q(b)"))
        self.assertIs(Book(BOOK).within(other=Book(BOOK)), True)

    def test_errors_have_their_attributes(self):
        module = importlib.import_module("fillbooks.errors")
        self.assertEqual(vars(module.InvalidText(at=3)), {"at": 3})
        self.assertEqual(vars(module.InvalidLine(reason="fact", line=3)), {"line": 3, "reason": "fact"})
        self.assertTrue(issubclass(FillError, ValueError))

    def test_predicates_tell_true_or_false(self):
        for name, function in (("comparing", "never_more"), ("comparing", "alike"), ("plain", "leads_into"), ("plain", "lead_both_ways"), ("questions", "never_surer")):
            call = getattr(importlib.import_module(f"fillbooks.{name}"), function)
            for one, other in itertools.product((BOOK, (), GIVEN["other"]), repeat=2):
                self.assertIn(call(one, other), (True, False))
                self.assertIsInstance(call(one, other), bool)


if __name__ == "__main__":
    unittest.main()
