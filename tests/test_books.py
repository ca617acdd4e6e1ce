import unittest

from fillbooks.books import check_book, check_rule, relations
from fillbooks.errors import InvalidBook, InvalidRule
from helpers import (A, BAD_ATOMS, BAD_BOOKS, BAD_RULES, GOOD_ATOMS, GOOD_BOOKS, GOOD_RULES, SMALL_RULE, atoms, book_of,
                     check_raises, full_term, rule_of, unchanged)


class TestCheckRule(unittest.TestCase):
    def test_rules(self):
        for rule in GOOD_RULES:
            with self.subTest(rule=rule):
                self.assertIsNone(unchanged(self, check_rule, rule))
                self.assertIsNone(check_rule(rule=rule))

    def test_anything_else(self):
        check_raises(self, InvalidRule, BAD_RULES, check_rule)

    def test_atoms(self):
        for good in GOOD_ATOMS:
            check_rule(((("p", ("X",)), good), (("q", ("X",)), ("q", (A,)))))
            check_rule(((good, ("p", ("X",))), (("q", ("X",)), good)))
        check_raises(self, InvalidRule, [((("p", ("X",)), bad), (("q", ("X",)),)) for bad in BAD_ATOMS], check_rule)

    def test_numbers_of_terms(self):
        for many in range(8):
            for rule in (((("p", ("X",) * many),), (("q", (A,)),)), ((("p", ("X",)),), (("q", ("X",) * many),))):
                if 1 <= many <= 4:
                    check_rule(rule)
                else:
                    self.assertRaises(InvalidRule, check_rule, rule)

    def test_numbers_of_atoms(self):
        for body in range(8):
            for heads in range(8):
                if 1 <= body <= 4 and 1 <= heads <= 3:
                    check_rule(rule_of(body, heads))
                else:
                    self.assertRaises(InvalidRule, check_rule, (atoms(body, term=A), atoms(heads, "q", A)))

    def test_variables_of_the_heads(self):
        body = (("p", ("X", ("f", ("Y", A)))), ("r", ("ZZ",)))
        for head in (("q", ("X",)), ("q", ("Y",)), ("q", (("g", ("ZZ", "X", ("h", ("Y",)))),)), ("q", (A,))):
            check_rule((body, (head,)))
            check_rule((body, (("q", ("X",)), head)))
        for name in ("Z", "ZZZ", "XY", "A", "F"):
            for head in (("q", (name,)), ("q", ("X", ("g", ("Y", name))))):
                self.assertRaises(InvalidRule, check_rule, (body, (head,)))
                self.assertRaises(InvalidRule, check_rule, (body, (("q", ("X",)), ("q", ("Y",)), head)))


class TestCheckBook(unittest.TestCase):
    def test_books(self):
        for book in GOOD_BOOKS + [(rule,) for rule in GOOD_RULES]:
            with self.subTest(book=book):
                self.assertIsNone(unchanged(self, check_book, book))
                self.assertIsNone(check_book(book=book))

    def test_anything_else(self):
        check_raises(self, InvalidBook, BAD_BOOKS + [(bad,) for bad in BAD_RULES], check_book)

    def test_numbers_of_rules_and_heads(self):
        for rules in range(1, 31):
            for heads in range(rules, 3 * rules + 1):
                if rules <= 24 and heads <= 24:
                    check_book(book_of(rules, heads))
                else:
                    self.assertRaises(InvalidBook, check_book, book_of(rules, heads))

    def test_the_same_rule_again(self):
        check_book((SMALL_RULE,) * 24)
        self.assertRaises(InvalidBook, check_book, (SMALL_RULE,) * 25)
        three = (SMALL_RULE[0], SMALL_RULE[1] * 3)
        check_book((three,) * 8)
        self.assertRaises(InvalidBook, check_book, (three,) * 8 + (SMALL_RULE,))


class TestRelations(unittest.TestCase):
    def test_ordinary(self):
        book = (((("works", ("X", "Y")), ("at", ("Y", A))), (("desk", ("X", "Y")), ("on", ("X",)))),
                ((("at", ("X", "X")),), (("desk", ("X", A)),)))
        self.assertEqual(unchanged(self, relations, book), ([("at", 2), ("works", 2)], [("desk", 2), ("on", 1)]))
        self.assertEqual(relations(book=book), relations(book))

    def test_one_name_with_several_numbers(self):
        body = (("p", ("X",)), ("p", ("X", "X", "X", "X")), ("p", ("X", "X")), ("p", ("X",)))
        heads = (("p", ("X", "X", "X")), ("p", ("X", "X")), ("a", (A,)))
        self.assertEqual(relations(((body, heads),)), ([("p", 1), ("p", 2), ("p", 4)], [("a", 1), ("p", 2), ("p", 3)]))
        self.assertEqual(relations(((body, heads), (heads, heads))),
                         ([("a", 1), ("p", 1), ("p", 2), ("p", 3), ("p", 4)], [("a", 1), ("p", 2), ("p", 3)]))

    def test_names_within_terms_are_none(self):
        rule = ((("p", (("f", ("X",)),)),), (("q", (full_term(30), ("p", ()))),))
        self.assertEqual(relations((rule,)), ([("p", 1)], [("q", 2)]))

    def test_order(self):
        rules = tuple(((("p" + name, ("X",)),), ((name, ("X",)),)) for name in ("b", "9", "a", "aa", "0z", "z", "ab"))
        self.assertEqual(relations(rules)[1], [(name, 1) for name in ("0z", "9", "a", "aa", "ab", "b", "z")])
        self.assertEqual(relations(rules)[0], [(name, 1) for name in ("p0z", "p9", "pa", "paa", "pab", "pb", "pz")])

    def test_new_lists(self):
        self.assertEqual(relations(()), ([], []))
        first = relations((SMALL_RULE,))
        self.assertIsInstance(first, tuple)
        first[0].append(3)
        first[1].clear()
        self.assertEqual(relations((SMALL_RULE,)), ([("p", 1)], [("q", 1)]))
        same = relations((SMALL_RULE[:1] * 2,))
        self.assertIsNot(same[0], same[1])
        empty = relations(())
        self.assertIsNot(empty[0], empty[1])

    def test_no_book(self):
        check_raises(self, InvalidBook, BAD_BOOKS, relations)


if __name__ == "__main__":
    unittest.main()
