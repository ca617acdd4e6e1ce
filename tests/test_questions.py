import random
import unittest

from fillbooks.comparing import alike
from fillbooks.errors import InvalidBook, InvalidQuestion, InvalidRow, InvalidStore, TooMany
from fillbooks.filling import fill
from fillbooks.forms import least_form
from fillbooks.joining import fill_row, identity, joined, row
from fillbooks.questions import asked, never_surer, sure, sure_form
from fillbooks.texts import book_text
from helpers import (A, B, BAD_BOOKS, BAD_ROWS, BAD_STORES, C, SMALL_RULE, all_stores, alike_book, check_raises, drawn_book,
                     drawn_rule, drawn_store, facts, frozen, numbered_facts, rules, slow_fill, unchanged, within_seconds)

CHAIN = {"relations": (("p", 2), ("p", 1)), "told": (("p", 2), ("p", 1))}
QUESTION = rules("p(X) -> ans(X)")
SEVERAL = [rules("p(X) -> ans(X), other(X)"), rules("p(X) -> ans(X), ans(X, X)"), rules("p(X) -> ans(X)", "p(X) -> other(X)"),
           rules("p(X) -> ans(X)", "p(X) -> ans(X, a)"), rules("p(X) -> ans(X), ans(a)", "q(X) -> ans(X, X)"),
           rules("p(X) -> a(X)", "p(X) -> a(X)", "p(X) -> a(X), b(X)"), rules("p(X, Y) -> a(X, Y), a(X, Y), a(X)")]
BAD_QUESTIONS = BAD_BOOKS + [()] + SEVERAL
NO_MADE = [value for value in (A, B, C)]


def made(fact):
    return any(value[1] for value in fact[1])


def slow_sure(book, store):
    return [fact for fact in slow_fill(book, store) if not made(fact)]


def drawn_question(draw, **wanted):
    told = draw.choice([("ans", 1), ("ans", 2), ("p", 1)])
    return drawn_book(draw, 2, told=(told,), **wanted) + (drawn_rule(draw, told=(told,), **wanted),)


def slow_row(books, store):
    for book in books:
        store = slow_fill(book, store)
    return store


class TestAsked(unittest.TestCase):
    def form(self, question, *books):
        return book_text(unchanged(self, asked, rules(*question), [rules(*texts) for texts in books])).split("\n")[:-1]

    def test_the_example(self):
        give, ask = rules("q(X) -> p(f(X))"), rules("p(f(X)) -> ans(X)")
        self.assertEqual(book_text(asked(ask, [give])), "q(A) -> ans(A)\n")
        self.assertEqual(asked(books=[give], question=ask), asked(ask, [give]))

    def test_ordinary(self):
        self.assertEqual(self.form(["q(X, Y) -> ans(X)"], ["p(X, Y) -> q(Y, X)"]), ["p(A, B) -> ans(B)"])
        self.assertEqual(self.form(["q(X, Y) -> ans(X)", "r(X) -> ans(X)"], ["p(X, Y) -> q(Y, X)", "p(X, Y) -> r(Y)"]), ["p(A, B) -> ans(B)"])
        self.assertEqual(self.form(["r(X) -> ans(X)"], ["p(X) -> q(X)", "s(X) -> q(X)"], ["q(X) -> r(X)"]), ["p(A) -> ans(A)", "s(A) -> ans(A)"])
        self.assertEqual(self.form(["q(X) -> ans(g(X))"], ["p(X) -> q(f(X))"]), ["p(A) -> ans(g(f(A)))"])
        self.assertEqual(self.form(["q(X) -> ans(X), ans(a)"], ["p(X) -> q(X)"]), ["p(A) -> ans(A)", "p(A) -> ans(a)"])

    def test_a_question_that_tells_nothing(self):
        for question, books in ((["q(a) -> ans(a)"], [["p(X) -> q(b)"]]), (["q(g(X)) -> ans(X)"], [["p(X) -> q(f(X))"]]),
                                (["q(X) -> ans(X)"], [[]]), (["q(X) -> ans(X)"], [["p(X) -> r(X)"], ["r(X) -> q(X, X)"]])):
            self.assertEqual(asked(rules(*question), [rules(*texts) for texts in books]), ())

    def test_what_it_returns_is_a_question_or_empty(self):
        draw = random.Random(101)
        for _ in range(100):
            told = asked(drawn_question(draw, deep=2, most=2), [drawn_book(draw, 3, heads=2, most=2, told=(("p", 2), ("r", 1)))])
            self.assertLessEqual(len({(head[0], len(head[1])) for _, heads in told for head in heads}), 1)
            if told:
                self.assertEqual(asked(told, [identity([("p", 2), ("p", 1), ("r", 1)])]), told)

    def test_beside_the_fillings(self):
        draw = random.Random(102)
        some = refused = 0
        for _ in range(500):
            deep = draw.choice([1, 2, 3])
            books = [drawn_book(draw, 2, deep=deep, heads=2, most=2, **CHAIN) for _ in range(draw.choice([1, 1, 2, 3]))]
            question = drawn_question(draw, deep=deep, most=2, relations=(("p", 2), ("p", 1)))
            try:
                told = unchanged(self, asked, question, books)
            except TooMany:
                self.assertRaises(TooMany, row, books + [question])
                refused += 1
                continue
            self.assertEqual(told, row(books + [question]))
            self.assertEqual(told, least_form(told))
            for _ in range(4):
                store = drawn_store(draw, 5, kinds=(("p", 2), ("p", 1)))
                wanted = slow_row(books + [question], store)
                self.assertEqual(slow_fill(told, store), wanted)
                some += len(wanted) > 0
        self.assertGreater(some, 150)
        self.assertGreater(refused, 0)

    def test_it_hangs_on_what_the_books_fill_alone(self):
        draw = random.Random(103)
        for _ in range(60):
            book, question = drawn_book(draw, 2, most=2, told=(("p", 2), ("r", 1))), drawn_question(draw, most=2)
            other, same = alike_book(draw, book), alike_book(draw, question)
            try:
                self.assertEqual(asked(question, [book]), asked(same, [other]))
            except TooMany:
                self.assertRaises(TooMany, asked, same, [other])

    def test_eight_books(self):
        step = rules("p(X, Y) -> p(Y, f(X))")
        books = [step] * 4 + [rules("p(f(X), Y) -> p(X, Y)")] * 4
        told = unchanged(self, asked, rules("p(X, Y) -> ans(X)"), books)
        whole = row(books)
        self.assertEqual(told, joined(whole, rules("p(X, Y) -> ans(X)")))
        for store in all_stores((("p", 2),), (A, ("f", (B,))), 2):
            self.assertEqual(fill(told, store), fill(rules("p(X, Y) -> ans(X)"), fill_row(books, store)))
        same = [rules("p(X) -> p(X)")] * 8
        self.assertEqual(book_text(asked(QUESTION, same)), "p(A) -> ans(A)\n")
        self.assertRaises(InvalidRow, asked, QUESTION, same + same[:1])

    def test_too_many(self):
        deep = rules("p(X) -> p(f(f(f(X))))")
        self.assertEqual(book_text(asked(QUESTION, [deep])), "p(A) -> ans(f(f(f(A))))\n")
        self.assertRaises(TooMany, asked, QUESTION, [deep, deep])
        self.assertRaises(TooMany, asked, QUESTION, [deep] * 8)
        self.assertRaises(TooMany, asked, rules("p(X) -> ans(g(g(g(X))))"), [deep])
        self.assertEqual(asked(QUESTION, [(), deep, deep]), ())
        many = rules(*[f"p(X) -> q(X, c{k})" for k in range(20)])
        self.assertEqual(book_text(asked(rules("q(X, Y) -> ans(X)"), [many])), "p(A) -> ans(A)\n")
        self.assertRaises(TooMany, asked, rules("q(X, Y), q(Y, Z) -> ans(X)"), [many])
        self.assertRaises(TooMany, asked, rules("q(X, Y) -> ans(X), ans(Y)"), [rules(*[f"p(X) -> q(c{k}, d{k})" for k in range(24)])])

    def test_ninth_of_too_many(self):
        """What is too great only with the question behind eight books."""
        same = [rules("p(X) -> p(X)")] * 7
        self.assertRaises(TooMany, asked, rules("p(X) -> ans(g(g(g(X))))"), same + [rules("p(X) -> p(f(f(f(X))))")])
        self.assertEqual(len(asked(rules("p(X) -> ans(g(g(X)))"), same + [rules("p(X) -> p(f(f(f(X))))")])), 1)

    def test_no_question(self):
        check_raises(self, InvalidQuestion, BAD_QUESTIONS, lambda bad: asked(bad, [(SMALL_RULE,)]))
        for books in ([], None, [None], [()] * 9):
            check_raises(self, InvalidQuestion, BAD_QUESTIONS[::5] + SEVERAL, lambda bad, books=books: asked(bad, books))

    def test_no_row(self):
        check_raises(self, InvalidRow, BAD_ROWS, lambda bad: asked(QUESTION, bad))
        deep = rules("p(X) -> p(f(f(f(X))))")
        check_raises(self, InvalidRow, BAD_BOOKS[::5], lambda bad: asked(QUESTION, [deep, deep, bad]))

    def test_questions(self):
        for question in (QUESTION * 24, rules("p(X) -> ans(X), ans(a), ans(f(X))"), rules("p(X) -> ans(X, a)", "q(X) -> ans(f(X), X)")):
            self.assertEqual(asked(question, [identity([("p", 1), ("q", 1)])]), least_form(question))

    def test_slowest(self):
        many = rules(*[f"p(X, Y), r(Y, c{k}) -> q(X, Y, c{k})" for k in range(20)])
        with within_seconds():
            self.assertEqual(len(asked(rules("q(X, Y, Z) -> ans(Z)", "q(X, X, Z) -> ans(Z)", "q(X, a, Z) -> ans(Z)"), [many])), 20)
        with within_seconds():
            self.assertRaises(TooMany, asked, rules("q(X, Y, Z) -> ans(X)", "q(X, Y, Z) -> ans(Y)", "q(X, Y, Z) -> ans(Z)"), [many])
        with within_seconds():
            self.assertEqual(len(asked(rules("p(X, Y) -> ans(X)"), [rules("p(X, Y) -> p(Y, X)", "p(X, X) -> p(X, a)")] * 8)), 2)


class TestSure(unittest.TestCase):
    def test_the_example(self):
        give = rules("q(X) -> p(f(X))")
        self.assertEqual(sure(give, facts("q(a)")), [])
        self.assertEqual(sure(store=facts("q(a)"), book=give), [])

    def test_ordinary(self):
        book = rules("p(X, Y) -> q(X), q(f(Y)), r(X, f(X))", "p(X, f(Y)) -> q(Y), s(X, Y)", "p(X, Y) -> t(Y)")
        store = facts("p(b, a)", "p(a, f(c))", "p(f(a), f(f(a)))", "p(b, a)")
        self.assertEqual(unchanged(self, sure, book, store), facts("q(a)", "q(b)", "q(c)", "s(a, c)", "t(a)"))

    def test_constants_beside_made_things(self):
        self.assertEqual(sure(rules("p(X) -> q(X, a), q(f(X), a), q(a, f(X))", "p(X) -> q(f, X)"), facts("p(b)")), facts("q(b, a)", "q(f, b)"))

    def test_beside_slow_answers(self):
        draw = random.Random(104)
        for _ in range(500):
            book, store = drawn_book(draw, 3, deep=draw.choice([1, 3]), heads=3), drawn_store(draw)
            self.assertEqual(unchanged(self, sure, book, store), slow_sure(book, store))

    def test_errors_of_fill(self):
        for store in ([], [("p", (A,))], None, [None]):
            check_raises(self, InvalidBook, BAD_BOOKS, lambda book, store=store: sure(book, store))
        for book in ((), (SMALL_RULE,), rules("p(X), p(Y), p(Z), p(W) -> q(X)")):
            check_raises(self, InvalidStore, BAD_STORES, lambda store, book=book: sure(book, store))
        for text in ("p(X), p(Y), p(Z) -> q(X)", "p(X), p(Y), p(Z) -> q(f(X))", "p(X), p(Y), p(Z), r(X) -> q(X)"):
            self.assertLessEqual(len(sure(rules(text), numbered_facts(10))), 10)
            self.assertRaises(TooMany, unchanged, self, sure, rules(text), numbered_facts(11))

    def test_slowest(self):
        book = rules(*[f"p(X), p(Y), p(Z) -> q{k}(X, Y, Z)" for k in range(24)])
        with within_seconds():
            self.assertEqual(len(sure(book, numbered_facts(10))), 24000)

    def test_new(self):
        store = facts("p(a)")
        first = sure(rules("p(X) -> p(X)"), store)
        first.append(3)
        self.assertEqual(sure(rules("p(X) -> p(X)"), store), store)


class TestSureForm(unittest.TestCase):
    def test_ordinary(self):
        book = rules("p(X, Y) -> q(X), q(f(Y)), r(X, Y)", "p(X, f(Y)) -> q(Y)", "p(Z, Z) -> q(Z)", "p(X, Y), p(X, Z) -> s(X)")
        self.assertEqual(book_text(unchanged(self, sure_form, book)), "p(A, B) -> q(A)\np(A, B) -> r(A, B)\np(A, B) -> s(A)\n")
        self.assertEqual(sure_form(book=book), sure_form(book))

    def test_nothing(self):
        for texts in ([], ["p(X) -> q(f(X))"], ["p(f(X)) -> q(X)"], ["p(f(a)) -> q(a)"], ["p(X), p(f(Y)) -> q(X)"], ["p(X) -> q(a, f(a))"]):
            self.assertEqual(sure_form(rules(*texts)), ())

    def test_one_head_of_several(self):
        self.assertEqual(book_text(sure_form(rules("p(X) -> q(X), q(f(X)), r(a)"))), "p(A) -> q(A)\np(A) -> r(a)\n")

    def test_without_made_things_it_is_the_least_form(self):
        draw = random.Random(105)
        for _ in range(100):
            book = drawn_book(draw, 4, heads=2)
            self.assertEqual(sure_form(book), least_form(book))

    def test_beside_sure(self):
        draw = random.Random(106)
        some = 0
        for _ in range(300):
            book = drawn_book(draw, 4, deep=draw.choice([1, 2, 3]), heads=3)
            form = unchanged(self, sure_form, book)
            self.assertEqual(form, least_form(form))
            self.assertFalse(any(made_in(part) for body, heads in form for part in body + heads))
            for _ in range(5):
                store = drawn_store(draw, 6, values=NO_MADE)
                self.assertEqual(slow_fill(form, store), slow_sure(book, store))
                self.assertEqual(fill(form, store), sure(book, store))
                some += len(form) > 0
        self.assertGreater(some, 300)

    def test_it_hangs_on_what_the_book_fills_alone(self):
        draw = random.Random(107)
        for _ in range(150):
            book = drawn_book(draw, 3, deep=draw.choice([1, 3]), heads=2, most=2)
            self.assertEqual(sure_form(alike_book(draw, book)), sure_form(book))
            self.assertEqual(sure_form(least_form(book)), sure_form(book))

    def test_no_book(self):
        check_raises(self, InvalidBook, BAD_BOOKS, sure_form)


def made_in(part):
    return any(not isinstance(term, str) and term[1] for term in part[1])


class TestNeverSurer(unittest.TestCase):
    def check(self, one, other, left, right):
        one, other = rules(*one), rules(*other)
        self.assertIs(unchanged(self, never_surer, one, other), left)
        self.assertIs(never_surer(other=one, one=other), right)

    def test_ordinary(self):
        self.check(["p(X, X) -> q(X)"], ["p(X, Y) -> q(X)"], True, False)
        self.check(["p(X) -> q(X)"], ["p(X) -> r(X)"], False, False)
        self.check([], ["p(X) -> q(X)"], True, False)
        self.check(["p(X) -> q(X)"], ["p(X) -> q(X)"], True, True)

    def test_made_things(self):
        self.check(["p(X) -> q(f(X))"], [], True, True)
        self.check(["p(f(X)) -> q(X)"], [], True, True)
        self.check(["p(X) -> q(X), q(f(X))"], ["p(X) -> q(X)"], True, True)
        self.check(["p(X) -> q(X)"], ["p(X) -> q(f(X))"], False, True)
        self.check(["p(f(X)) -> q(X)", "p(a) -> q(a)"], ["p(X) -> q(X)"], True, False)
        self.check(["p(X), r(g(X, a)) -> q(X)"], ["p(X) -> q(b, g(X))"], True, True)
        self.check(["p(X) -> q(X)"], ["p(X) -> q(X)", "p(X), r(f(X)) -> s(X)"], True, True)
        self.check(["p(X) -> q(X)", "p(X) -> s(a)"], ["p(X) -> q(X)", "p(X), r(f(X)) -> s(a)"], False, True)

    def test_at_drawn_stores_and_frozen_bodies(self):
        draw = random.Random(108)
        seen = []
        for _ in range(400):
            one, other = (drawn_book(draw, 3, deep=draw.choice([1, 2, 3]), heads=2, most=2, variables="XY") for _ in range(2))
            if draw.random() < 0.4:
                other = other + one[:1]
            told = unchanged(self, never_surer, one, other)
            stores = [frozen(rule)[0] for rule in one] + [drawn_store(draw, 5, values=NO_MADE) for _ in range(6)]
            stores = [store for store in stores if not any(map(made_in, store))]
            less = all(set(slow_sure(one, store)) <= set(slow_sure(other, store)) for store in stores)
            self.assertEqual(told, less, (one, other))
            self.assertEqual(never_surer(one, other) and never_surer(other, one), alike(sure_form(one), sure_form(other)))
            seen.append(told)
        self.assertGreater(min(seen.count(True), seen.count(False)), 60)

    def test_no_books(self):
        for book in ((), (SMALL_RULE,), rules("q(a) -> p(f(b))")):
            check_raises(self, InvalidBook, BAD_BOOKS[::2], lambda bad, book=book: never_surer(bad, book))
            check_raises(self, InvalidBook, BAD_BOOKS[1::2], lambda bad, book=book: never_surer(book, bad))


if __name__ == "__main__":
    unittest.main()
