import random
import unittest

from fillbooks.comparing import alike, never_more
from fillbooks.errors import InvalidBook, InvalidStore, TooMany
from fillbooks.filling import fill
from fillbooks.forms import least_form
from fillbooks.joining import joined
from fillbooks.values import Book
from helpers import (A, BAD_BOOKS, BAD_STORES, GOOD_BOOKS, SMALL_RULE, alike_book, book_of, check_raises, drawn_book, drawn_store,
                     facts, nested, numbered_facts, rules, slow_alike, slow_fill, unchanged, within_seconds)

# What is no Book, a tuple of rules among it.
NO_BOOKS = [None, True, False, 0, 1, -3, 10 ** 29, "", "p(X) -> q(X)", (), (SMALL_RULE,), [SMALL_RULE], SMALL_RULE, [], {}, {"rules": (SMALL_RULE,)},
            [Book((SMALL_RULE,))], (Book((SMALL_RULE,)),), nested(50, lambda thing: [thing])]


def book(*texts):
    return Book(rules(*texts))


class TestBook(unittest.TestCase):
    def test_rules(self):
        for good in GOOD_BOOKS:
            told = unchanged(self, Book, good)
            self.assertIsInstance(told, Book)
            self.assertEqual(told.rules, good)
            self.assertIsInstance(told.rules, tuple)
            self.assertEqual(Book(rules=good).rules, good)

    def test_no_book(self):
        check_raises(self, InvalidBook, BAD_BOOKS, Book)
        self.assertRaises(InvalidBook, Book, Book((SMALL_RULE,)))
        self.assertRaises(InvalidBook, Book, (Book((SMALL_RULE,)),))
        self.assertRaises(InvalidBook, Book, [SMALL_RULE])

    def test_it_does_not_change(self):
        one = book("p(X) -> q(X)")
        with self.assertRaises(AttributeError):
            one.rules = ()
        self.assertEqual(one.rules, rules("p(X) -> q(X)"))

    def test_hash_is_not_offered(self):
        self.assertRaises(TypeError, hash, book("p(X) -> q(X)"))

    def test_call(self):
        one = book("works(X, Y) -> desk(X, no(X))")
        self.assertEqual(one(facts("works(a, b)", "works(a, c)")), facts("desk(a, no(a))"))
        self.assertEqual(one(store=facts("works(a, b)")), facts("desk(a, no(a))"))
        self.assertEqual(Book(())([]), [])
        draw = random.Random(141)
        for _ in range(200):
            told, store = drawn_book(draw, 3, deep=2, heads=2), drawn_store(draw)
            self.assertEqual(unchanged(self, Book(told), store), slow_fill(told, store))

    def test_call_answers_new_lists(self):
        one = book("p(X) -> p(X)")
        one(facts("p(a)")).append(3)
        self.assertEqual(one(facts("p(a)")), facts("p(a)"))

    def test_call_raises(self):
        check_raises(self, InvalidStore, BAD_STORES, book("p(X) -> q(X)"))
        cubes = book("p(X), p(Y), p(Z) -> q(X)")
        self.assertEqual(len(cubes(numbered_facts(10))), 10)
        self.assertRaises(TooMany, cubes, numbered_facts(11))


class TestSigns(unittest.TestCase):
    def test_behind_one_another(self):
        one, other = book("works(X, Y) -> desk(X, no(X)), at(no(X), Y)"), book("desk(X, N), at(N, Y) -> finds(X, Y)")
        self.assertEqual((one >> other).rules, rules("works(A, B) -> finds(A, B)"))
        self.assertIsInstance(one >> other, Book)
        self.assertEqual((other >> one).rules, ())
        self.assertEqual((one.rules, other.rules), (rules("works(X, Y) -> desk(X, no(X)), at(no(X), Y)"), rules("desk(X, N), at(N, Y) -> finds(X, Y)")))

    def test_behind_one_another_beside_joined(self):
        draw = random.Random(142)
        refused = 0
        for _ in range(200):
            one = drawn_book(draw, 3, deep=draw.choice([1, 3]), heads=2, most=2)
            other = drawn_book(draw, 2, deep=2, heads=2, most=2, relations=(("q", 2), ("q", 1)), told=(("r", 2), ("r", 1)))
            try:
                told = (Book(one) >> Book(other)).rules
            except TooMany:
                refused += 1
                self.assertRaises(TooMany, joined, one, other)
                continue
            self.assertEqual(told, joined(one, other))
            store = drawn_store(draw, 6)
            self.assertEqual(Book(told)(store), slow_fill(other, slow_fill(one, store)))
        self.assertLess(refused, 60)

    def test_too_many(self):
        deep = book("p(X) -> p(f(f(f(X))))")
        self.assertRaises(TooMany, lambda: deep >> deep)
        many = book(*[f"p(X) -> q(X, c{k})" for k in range(24)])
        self.assertRaises(TooMany, lambda: many >> book("q(X, Y), q(Z, W) -> r(X, Y, Z, W)"))

    def test_beside_one_another(self):
        one, other = book("p(X) -> q(X)", "p(X) -> r(X)"), book("r(X) -> s(X)", "p(Y) -> q(Y)")
        self.assertEqual((one | other).rules, one.rules + other.rules)
        self.assertEqual((other | one).rules, other.rules + one.rules)
        self.assertEqual((one | one).rules, one.rules * 2)
        self.assertEqual((one | Book(())).rules, one.rules)
        self.assertIsInstance(one | other, Book)
        self.assertEqual((len(one), len(other)), (2, 2))

    def test_beside_one_another_at_24(self):
        one = Book((SMALL_RULE,) * 12)
        self.assertEqual(len(one | one), 24)
        self.assertRaises(InvalidBook, lambda: one | Book((SMALL_RULE,) * 13))
        self.assertRaises(InvalidBook, lambda: Book((SMALL_RULE,) * 24) | Book((SMALL_RULE,)))
        self.assertEqual(len(Book((SMALL_RULE,) * 24) | Book(())), 24)
        self.assertEqual(len(Book(book_of(8, 20)) | Book(book_of(2, 4))), 10)
        self.assertRaises(InvalidBook, lambda: Book(book_of(8, 20)) | Book(book_of(2, 5)))
        self.assertRaises(InvalidBook, lambda: Book(book_of(8, 24)) | Book(book_of(1, 1)))

    def test_no_book_behind_the_sign(self):
        cubes = Book((SMALL_RULE,) * 24)
        for one in (Book(()), book("p(X) -> q(X)"), cubes):
            for bad in NO_BOOKS:
                self.assertRaises(InvalidBook, lambda one=one, bad=bad: one >> bad)
                self.assertRaises(InvalidBook, lambda one=one, bad=bad: one | bad)
                self.assertRaises(InvalidBook, one.within, bad)
            check_raises(self, InvalidBook, NO_BOOKS[:14], lambda bad, one=one: one >> bad)
            check_raises(self, InvalidBook, NO_BOOKS[:14], lambda bad, one=one: one | bad)
            check_raises(self, InvalidBook, NO_BOOKS[:14], one.within)

    def test_least(self):
        one = book("p(X, Y), p(Z, Y), p(X, U) -> q(X), q(f(X))", "p(b, X) -> q(b)")
        self.assertEqual(one.least().rules, rules("p(A, B) -> q(A)", "p(A, B) -> q(f(A))"))
        self.assertIsInstance(one.least(), Book)
        draw = random.Random(143)
        for _ in range(60):
            told = drawn_book(draw, 3, deep=2, heads=2)
            self.assertEqual(Book(told).least().rules, least_form(told))
            self.assertEqual(Book(told).least(), Book(told))


class TestEqual(unittest.TestCase):
    def test_equal_books_with_unlike_rules(self):
        one, other = book("p(X, Y) -> q(X)"), book("p(Z, W), p(Z, V) -> q(Z)", "p(a, X) -> q(a)")
        self.assertTrue(one == other)
        self.assertFalse(one != other)
        self.assertNotEqual(one.rules, other.rules)
        self.assertFalse(one == book("p(X, X) -> q(X)"))
        self.assertTrue(one != book("p(X, X) -> q(X)"))
        self.assertTrue(Book(()) == Book(()))
        self.assertIs(one == other, True)
        self.assertIs(one == Book(()), False)
        self.assertIs(one != Book(()), True)

    def test_nothing_else_is_equal(self):
        for bad in NO_BOOKS + [facts("p(a)"), object()]:
            for one in (Book(()), book("p(X) -> q(X)")):
                self.assertIs(one == bad, False)
                self.assertIs(one != bad, True)
                self.assertIs(bad == one, False)
                self.assertIs(bad != one, True)

    def test_drawn_books(self):
        draw = random.Random(144)
        seen = []
        for _ in range(300):
            one = drawn_book(draw, 3, heads=2, most=2, variables="XY")
            other = draw.choice([drawn_book(draw, 3, heads=2, most=2, variables="XY"), alike_book(draw, one)])
            same = slow_alike(one, other)
            self.assertIs(Book(one) == Book(other), same)
            self.assertIs(Book(one) != Book(other), not same)
            self.assertEqual(same, alike(one, other))
            seen.append(same)
        self.assertGreater(min(seen.count(True), seen.count(False)), 60)

    def test_within(self):
        one, other = book("p(X, Y) -> q(X)"), book("p(X, X) -> q(X)")
        self.assertIs(other.within(one), True)
        self.assertIs(one.within(other), False)
        self.assertIs(one.within(other=one), True)
        self.assertIs(Book(()).within(one), True)
        draw = random.Random(145)
        for _ in range(200):
            left, right = (drawn_book(draw, 3, heads=2, most=2, variables="XY") for _ in range(2))
            self.assertIs(Book(left).within(Book(right)), never_more(left, right))


class TestRules(unittest.TestCase):
    def test_length(self):
        for many in (0, 1, 7, 24):
            self.assertEqual(len(Book((SMALL_RULE,) * many)), many)
        self.assertEqual(len(book("p(X) -> q(X), r(X), s(X)")), 1)

    def test_iteration(self):
        told = rules("p(X) -> q(X)", "a(X) -> b(X)", "p(X) -> q(X)")
        one = Book(told)
        self.assertEqual(list(one), list(told))
        self.assertEqual(list(one), list(told))
        self.assertEqual([rule for rule in Book(())], [])
        self.assertEqual([(left, right) for left in one for right in one], [(left, right) for left in told for right in told])

    def test_iterations_by_turns(self):
        told = rules("p(X) -> q(X)", "a(X) -> b(X)", "c(X) -> d(X)")
        one = Book(told)
        first, second = iter(one), iter(one)
        self.assertEqual([next(first), next(first), next(second), next(first), next(second)], [told[0], told[1], told[0], told[2], told[1]])
        self.assertRaises(StopIteration, next, first)
        self.assertEqual(list(second), [told[2]])

    def test_rules_that_are_in_it(self):
        told = rules("p(X, Y) -> q(X)", "a(X) -> b(f(X))")
        one = Book(told)
        for rule in told:
            self.assertIs(rule in one, True)
        self.assertIs(tuple(list(told[0])) in one, True)

    def test_rules_that_are_written_otherwise(self):
        one = book("p(X, Y) -> q(X)", "a(X) -> b(f(X))")
        for rule in rules("p(A, B) -> q(A)", "p(X, Y), p(X, Z) -> q(X)", "p(X, Y) -> q(X), q(X)", "a(X) -> b(X)"):
            self.assertIs(rule in one, False)

    def test_any_value(self):
        one = book("p(X, Y) -> q(X)")
        for value in NO_BOOKS + [one, list(one.rules[0]), [list(part) for part in one.rules[0]], one.rules, one.rules[0][0], {one.rules[0]: 1}, ((), ())]:
            self.assertIs(value in one, False)
            self.assertIs(value in Book(()), False)


class TestSlowest(unittest.TestCase):
    def test_great_books(self):
        one = book(*[f"p(X, Y), p(Y, Z), p(Z, W), p(W, c{k}) -> q(X)" for k in range(24)])
        other = book(*[f"p(A, B), p(B, C), p(C, D), p(D, c{23 - k}) -> q(A)" for k in range(24)])
        with within_seconds():
            self.assertTrue(one == other)
        with within_seconds():
            self.assertEqual(len(one.least()), 24)
        with within_seconds():
            self.assertEqual(len(one >> book("q(X) -> r(X, f(X))")), 24)
        with within_seconds():
            self.assertEqual(len(book("p(X), p(Y), p(Z) -> q(X, Y, Z)")(numbered_facts(10) + [("r", (A,))])), 1000)
        self.assertEqual(fill(one.rules, []), [])


if __name__ == "__main__":
    unittest.main()
