import random
import unittest

from fillbooks.books import check_book, relations
from fillbooks.errors import InvalidBook, InvalidRelations, InvalidRow, InvalidStore, TooMany
from fillbooks.filling import fill
from fillbooks.forms import least_form
from fillbooks.joining import fill_row, identity, joined, row
from fillbooks.texts import book_text, read_rule
from helpers import (A, B, BAD_BOOKS, BAD_NAMES, BAD_NUMBERS, BAD_ROWS, BAD_STORES, GOOD_BOOKS, SMALL_RULE, alike_book, chain, check_raises, count,
                     drawn_book, drawn_store, facts, frozen, full_term, numbered_facts, rules, slow_fill, unchanged,
                     within_seconds)

CHAIN = {"relations": (("p", 2), ("p", 1)), "told": (("p", 2), ("p", 1))}


def form(*lists):
    """The text of what is joined of several books, each a list of texts, in lines."""
    return book_text(row([rules(*texts) for texts in lists])).split("\n")[:-1]


def many_rules(many, text):
    """So many rules, each with a constant of its own for the sign `*`."""
    return [text.replace("*", f"c{k}") for k in range(many)]


def slow_row(books, store):
    for book in books:
        store = slow_fill(book, store)
    return store


class TestFillRow(unittest.TestCase):
    def test_ordinary(self):
        give = rules("works(X, Y) -> desk(X, no(X)), at(no(X), Y)")
        ask = rules("desk(X, N), at(N, Y) -> finds(X, Y)")
        store = facts("works(b, a)", "works(a, b)", "finds(c, c)")
        self.assertEqual(unchanged(self, fill_row, [give, ask], store), facts("finds(a, b)", "finds(b, a)"))
        self.assertEqual(fill_row(books=[give], store=store), fill(give, store))
        self.assertEqual(fill_row([ask, give], store), [])
        self.assertEqual(fill_row([(), ask], store), [])
        self.assertEqual(fill_row([ask, ()], store), [])

    def test_in_their_order(self):
        one, other = rules("p(X) -> p(f(X))"), rules("p(X) -> p(g(X)), q(X)")
        self.assertEqual(fill_row([one, other], facts("p(a)")), facts("p(g(f(a)))", "q(f(a))"))
        self.assertEqual(fill_row([other, one], facts("p(a)")), facts("p(f(g(a)))"))
        self.assertEqual(fill_row([one] * 8, facts("p(a)")), [("p", (chain(9, inmost=A),))])

    def test_beside_slow_answers(self):
        draw = random.Random(51)
        some = 0
        for _ in range(600):
            books = [drawn_book(draw, 3, deep=draw.choice([1, 1, 3]), heads=2, most=2, **CHAIN) for _ in range(draw.randint(1, 4))]
            store = drawn_store(draw, 5, kinds=(("p", 2), ("p", 1)))
            try:
                told = unchanged(self, fill_row, books, store)
            except TooMany:
                continue
            self.assertEqual(told, slow_row(books, store))
            some += len(told) > 1
        self.assertGreater(some, 80)

    def test_more_facts_between_than_a_store_has(self):
        pairs = rules("p(X), p(Y) -> e(X, Y)")
        ends = rules("e(X, X) -> p(X)")
        self.assertEqual(len(fill_row([pairs], numbered_facts(30))), 900)
        self.assertEqual(fill_row([pairs, ends], numbered_facts(30)), sorted(numbered_facts(30)))
        self.assertEqual(len(fill_row([pairs, ends] * 3 + [pairs], numbered_facts(30))), 900)

    def test_greater_facts_between_than_a_store_has(self):
        deep = rules("p(X) -> p(f(f(f(f(f(X))))))")
        back = rules("p(f(f(f(f(f(X)))))) -> p(X)")
        self.assertEqual(fill_row([deep] * 4 + [back] * 4, [("p", (chain(6),))]), [("p", (chain(6),))])
        self.assertEqual(fill_row([deep] * 8, [("p", (chain(6),))]), [("p", (chain(46),))])

    def test_ways_at_the_first_step(self):
        book = rules("p(X), p(Y), p(Z), r(W) -> q(X)")
        self.assertEqual(fill_row([book], numbered_facts(10)), [])
        self.assertRaises(TooMany, unchanged, self, fill_row, [book], numbered_facts(11))
        self.assertRaises(TooMany, fill_row, [book, ()], numbered_facts(11))
        self.assertEqual(fill_row([(), book], numbered_facts(11)), [])

    def test_ways_at_a_later_step(self):
        """Of 10 constants there come 100 pairs."""
        pairs = rules("p(X), p(Y) -> e(X, Y)")
        good = rules("e(X, Y), e(Y, Z) -> q(X)", "e(X, X), e(Y, Y), e(Z, Z) -> q(a)", "e(X, X), e(Y, Z) -> q(a)")
        self.assertEqual(len(fill_row([pairs, good], numbered_facts(10))), 11)
        self.assertRaises(TooMany, fill_row, [pairs, good], numbered_facts(11))
        for bad in ("e(X, Y), e(Z, W) -> q(X)", "e(X, Y), e(Z, W), r(X) -> q(X)", "e(X, Y), e(Y, Z), e(Z, W) -> q(X)",
                    "e(X, Y), e(Y, Z), e(Z, W), r(X) -> q(X)"):
            for books in ([pairs, rules(bad)], [pairs, rules("e(X, Y) -> e(Y, X)"), rules(bad)], [pairs, rules(bad), pairs]):
                self.assertRaises(TooMany, fill_row, books, numbered_facts(10))
            self.assertEqual(fill_row([rules(bad), pairs], numbered_facts(10)), [])
            self.assertEqual(fill_row([pairs, (), rules(bad)], numbered_facts(10)), [])

    def test_the_first_atom_alone(self):
        """Two rules tell 900 facts each: more than 1,000 ways for one atom."""
        two = rules("p(X), p(Y) -> e(a, X, Y)", "p(X), p(Y) -> e(b, X, Y)")
        store = numbered_facts(22)
        self.assertEqual(len(fill_row([two], store)), 968)
        self.assertEqual(len(fill_row([two, rules("e(X, Y, Z) -> q(Y, Z)")], store)), 484)
        store = numbered_facts(23)
        self.assertEqual(len(fill_row([two], store)), 1058)
        self.assertRaises(TooMany, fill_row, [two, rules("e(X, Y, Z) -> q(Y, Z)")], store)
        self.assertRaises(TooMany, fill_row, [two, rules("e(X, Y, Z), r(X) -> q(Y, Z)")], store)
        self.assertEqual(len(fill_row([two, rules("e(a, Y, Z) -> q(Y, Z)", "r(X), e(X, Y, Z) -> q(Y, Z)")], store)), 529)

    def test_just_one_thousand_at_a_later_step(self):
        cubes = rules("p(X), p(Y), p(Z) -> e(X, Y, Z)")
        more = rules("p(X), p(Y), p(Z) -> e(X, Y, Z)", "p(X) -> e(a, a, X)")
        store = numbered_facts(10)
        same = rules("e(X, Y, Z) -> e(Z, Y, X)")
        self.assertEqual(len(fill_row([cubes] + [same] * 7, store)), 1000)
        self.assertEqual(len(fill_row([more], store)), 1010)
        self.assertRaises(TooMany, fill_row, [more, same], store)
        one_more = rules("p(X), p(Y), p(Z) -> e(X, Y, Z)", "p(n0) -> e(a, a, a)")
        self.assertEqual(len(fill_row([one_more], store)), 1001)
        self.assertRaises(TooMany, fill_row, [one_more, same], store)
        self.assertRaises(TooMany, fill_row, [one_more, same, ()], store)

    def test_names_of_a_fact(self):
        """From a value of m names come 4 * m + 1, twice 16 * m + 5."""
        four, one = rules("p(X) -> p(f(X, X, X, X))"), rules("p(X) -> p(f(X))")
        value = full_term(12, A)
        self.assertEqual(len(fill_row([four, four, one, one], [("p", (value,))])), 1)
        self.assertEqual(count(fill_row([four, four, one, one], [("p", (value,))])[0][1][0]), 199)
        self.assertRaises(TooMany, unchanged, self, fill_row, [four, four, one, one, one], [("p", (value,))])
        self.assertRaises(TooMany, fill_row, [four, four, one, one, rules("p(X) -> q(X, b)")], [("p", (value,))])
        self.assertRaises(TooMany, fill_row, [four, four, one, one, one, ()], [("p", (value,))])
        self.assertRaises(TooMany, fill_row, [four] * 8, [("p", (A,))])

    def test_names_of_a_fact_of_one_step(self):
        """Of a value of 30 names come 6 * 30 and those of the last terms, and three more, for the relation and two terms."""
        value = ("f", (full_term(29, A),))
        for many, good in ((16, True), (17, True), (18, False), (25, False)):
            head = ("q", (("g", ("X", "X", "X", "X")), ("h", ("X", "X")), full_term(many - 1, A), A))
            book, store = ((SMALL_RULE[0], (head,)),), [("p", (value,))]
            self.assertEqual(1 + sum(map(count, fill(book, store)[0][1])), 183 + many)
            if good:
                self.assertEqual(fill_row([book], store), fill(book, store))
            else:
                self.assertRaises(TooMany, fill_row, [book], store)
                self.assertRaises(TooMany, fill_row, [rules("p(X) -> p(X)"), book], store)

    def test_new_lists(self):
        books, store = [rules("p(X) -> p(X)")], facts("p(a)")
        first = fill_row(books, store)
        first.append(3)
        self.assertEqual(fill_row(books, store), store)
        self.assertEqual(len(store), 1)

    def test_slowest(self):
        cubes = tuple(read_rule(f"p(X), p(Y), p(Z) -> q(c{k}, X, Y, Z)") for k in range(24))
        turn = tuple(read_rule(f"q(c{k}, X, Y, Z), q(U, X, Z, a) -> q(c{k}, Z, X, Y)") for k in range(24))
        same = tuple(read_rule(f"q(c{k}, X, Y, Z), q(c{(k + 1) % 24}, X, Y, Z) -> q(c{k}, f(Z), X, Y)") for k in range(24))
        with within_seconds():
            self.assertEqual(len(fill_row([cubes, same, same], numbered_facts(10))), 24000)
        with within_seconds():
            self.assertEqual(len(fill_row([cubes] + [same] * 7, numbered_facts(10))), 24000)
        with within_seconds():
            fill_row([cubes] + [turn] * 7, numbered_facts(10))

    def test_no_row(self):
        for store in ([], facts("p(a)"), None, [None]):
            check_raises(self, InvalidRow, BAD_ROWS, lambda books, store=store: fill_row(books, store))

    def test_no_store(self):
        cubes = rules("p(X), p(Y), p(Z), p(W) -> q(X)")
        for books in ([()], [(SMALL_RULE,), cubes]):
            check_raises(self, InvalidStore, BAD_STORES, lambda store, books=books: fill_row(books, store))


class TestJoined(unittest.TestCase):
    def test_the_example(self):
        one = rules("works(X, Y) -> desk(X, no(X)), at(no(X), Y)")
        other = rules("desk(X, N), at(N, Y) -> finds(X, Y)")
        self.assertEqual(book_text(unchanged(self, joined, one, other)), "works(A, B) -> finds(A, B)\n")
        self.assertEqual(joined(one=one, other=other), joined(one, other))

    def test_ordinary(self):
        self.assertEqual(form(["p(X) -> q(X)"], ["q(X) -> r(X)"]), ["p(A) -> r(A)"])
        self.assertEqual(form(["p(X, Y), p(Y, Z) -> q(X, Z)"], ["q(X, Y), q(Y, Z) -> q(X, Z)"]),
                         ["p(A, B), p(B, C), p(C, D), p(D, E) -> q(A, E)"])
        self.assertEqual(form(["p(X) -> q(X)", "s(X) -> q(X)"], ["q(X), q(Y) -> r(X, Y)"]),
                         ["p(A), p(B) -> r(A, B)", "p(A), s(B) -> r(A, B)", "p(A), s(B) -> r(B, A)", "s(A), s(B) -> r(A, B)"])
        self.assertEqual(form(["p(X) -> q(X), r(X)"], ["q(X), r(X) -> s(X)", "q(X), r(Y) -> t(X, Y)"]),
                         ["p(A) -> s(A)", "p(A), p(B) -> t(A, B)"])

    def test_made_things_that_are_asked_and_told(self):
        self.assertEqual(form(["p(X) -> q(f(X))"], ["q(f(X)) -> r(X)"]), ["p(A) -> r(A)"])
        self.assertEqual(form(["p(X) -> q(f(X))"], ["q(X) -> r(g(X))"]), ["p(A) -> r(g(f(A)))"])
        self.assertEqual(form(["p(X) -> q(X)"], ["q(f(X)) -> r(X)"]), ["p(f(A)) -> r(A)"])
        self.assertEqual(form(["p(X, Y) -> q(X, f(Y))"], ["q(g(X), Y) -> r(X, Y)"]), ["p(g(A), B) -> r(A, f(B))"])
        self.assertEqual(form(["p(X, Y) -> q(f(X, Y))", "s(X) -> q(f(X, X))"], ["q(f(X, g(X))) -> r(X)"]), ["p(A, g(A)) -> r(A)"])
        self.assertEqual(form(["p(X) -> q(X, f(X))"], ["q(X, Y), q(Y, Z) -> r(X, Z)"]), ["p(A), p(f(A)) -> r(A, f(f(A)))"])
        self.assertEqual(form(["p(X) -> q(f(X), X)"], ["q(X, Y), q(X, Z) -> r(Y, Z)"]), ["p(A) -> r(A, A)"])

    def test_joins_that_tell_nothing(self):
        for one, other in ((["p(X) -> q(f(X))"], ["q(g(X)) -> r(X)"]), (["p(X) -> q(X)"], ["p(X) -> r(X)"]),
                           (["p(X) -> q(X)"], ["q(X, Y) -> r(X)"]), (["p(X) -> q(a)"], ["q(b) -> r(b)"]), (["p(X) -> q(X)"], []),
                           ([], ["p(X) -> q(X)"]), ([], []), (["p(X) -> q(f(X), X)"], ["q(X, X) -> r(X)"]),
                           (["p(X) -> q(X)"], ["q(X), s(X) -> r(X)"]), (["p(X) -> q(f(X)), s(g(X))"], ["q(X), s(X) -> r(X)"]),
                           (["p(X) -> q(X, a)"], ["q(X, Y), q(Y, b) -> r(X)"])):
            self.assertEqual(joined(rules(*one), rules(*other)), ())

    def test_one_rule_twice_in_one_choice(self):
        self.assertEqual(form(["p(X) -> q(X)"], ["q(X), q(Y) -> r(X, Y)"]), ["p(A), p(B) -> r(A, B)"])
        self.assertEqual(form(["p(X, Y) -> q(X)"], ["q(X), q(Y) -> r(X, Y)"]), ["p(A, B), p(C, D) -> r(A, C)"])
        self.assertEqual(form(["p(X, Y) -> q(X)"], ["q(X), q(f(X)) -> r(X)"]), ["p(A, B), p(f(A), C) -> r(A)"])
        self.assertEqual(form(["p(A, Z), p(Z, B) -> q(A, B)"], ["q(Z, A), q(A, Z) -> r(Z)"]),
                         ["p(A, B), p(B, C), p(C, D), p(D, A) -> r(A)"])

    def test_beside_the_fillings(self):
        draw = random.Random(52)
        some = refused = 0
        for _ in range(700):
            wanted = draw.choice([{"deep": 1}, {"deep": 3}, {"deep": 2}])
            one = drawn_book(draw, 3, heads=2, most=2, **wanted)
            other = drawn_book(draw, 2, heads=2, most=2, relations=(("q", 2), ("q", 1)), told=(("r", 2), ("r", 1)), **wanted)
            try:
                told = unchanged(self, joined, one, other)
            except TooMany:
                refused += 1
                continue
            check_book(told)
            self.assertEqual(least_form(told), told)
            for rule in told:
                body, heads = frozen(rule)
                self.assertIn(heads[0], slow_row([one, other], body))
            for _ in range(4):
                store = drawn_store(draw, 6)
                filling = slow_row([one, other], store)
                self.assertEqual(slow_fill(told, store), filling, (one, other, store))
                some += len(filling) > 0
        self.assertGreater(some, 300)
        self.assertLess(refused, 150)

    def test_it_hangs_on_what_the_books_fill_alone(self):
        draw = random.Random(53)
        for _ in range(200):
            one = drawn_book(draw, 3, heads=2, most=2)
            other = drawn_book(draw, 2, heads=2, most=2, relations=(("q", 2), ("q", 1)), told=(("r", 2), ("r", 1)))
            results = []
            for left, right in ((one, other), (alike_book(draw, one), alike_book(draw, other)), (least_form(one), least_form(other))):
                try:
                    results.append(joined(left, right))
                except TooMany:
                    results.append(TooMany)
            self.assertEqual(results[0], results[1])
            self.assertEqual(results[0], results[2])

    def test_no_books(self):
        for book in ((), (SMALL_RULE,), rules("q(a) -> p(b)")):
            check_raises(self, InvalidBook, BAD_BOOKS[::2], lambda bad, book=book: joined(bad, book))
            check_raises(self, InvalidBook, BAD_BOOKS[1::2], lambda bad, book=book: joined(book, bad))
        many = rules(*many_rules(24, "p(X) -> q(X, *)"))
        ask = rules("q(X, Y), q(Z, W) -> r(X, Y, Z, W)")
        self.assertRaises(TooMany, joined, many, ask)
        check_raises(self, InvalidBook, BAD_BOOKS[::9], lambda bad: joined(many, (ask, bad)))
        check_raises(self, InvalidBook, BAD_BOOKS[::9], lambda bad: joined((bad,), ask))

    def test_slowest(self):
        with within_seconds():
            self.assertRaises(TooMany, joined, rules(*many_rules(24, "p(X, Y) -> q(X, Y, *)")),
                              rules(*many_rules(24, "q(X, Y, A), q(Y, Z, B), q(Z, W, C), q(W, V, *) -> r(X, V)")))
        ways = ["e(X, U), e(U, Y) -> s(X, Y)", "e(X, U), e(Y, U) -> s(X, Y)", "e(U, X), e(U, Y) -> s(X, Y)"]
        with within_seconds():
            self.assertEqual(form(ways, ["s(X, Y), s(Y, Z), s(Z, X) -> t(a)", "s(X, Y), s(Y, Z), s(X, Z) -> t(a)"]),
                             ["e(A, B) -> t(a)"])
        with within_seconds():
            self.assertRaises(TooMany, joined, rules(*ways), rules("s(X, Y), s(Y, Z), s(Z, X) -> t(X, Y)"))
        with within_seconds():
            self.assertEqual(form(["p(X, Y) -> q(X, Y)"] * 24, ["q(X, Y), q(Y, Z), q(Z, W), q(W, X) -> r(X)"] * 24),
                             ["p(A, B), p(B, C), p(C, D), p(D, A) -> r(A)"])
        great = full_term(30)
        big = tuple(((("p", (great, "X", "X", great)),), (("q", (great, great, (f"c{k}", ()), "X")),)) for k in range(24))
        with within_seconds():
            self.assertEqual(book_text(joined(big, rules("q(X, Y, Z, W) -> r(Z)"))).count("\n"), 24)

class TestBounds(unittest.TestCase):
    def check_too_many(self, one, other):
        for _ in range(2):
            with within_seconds():
                self.assertRaises(TooMany, unchanged, self, joined, one, other)
        self.assertRaises(TooMany, row, [one, other])

    def test_choices(self):
        """Of 60 choices of rules six can be, the others tell of unlike constants."""
        one = many_rules(10, "p(X) -> s(X, *)") + many_rules(6, "p(X) -> u(X, *)")
        self.assertEqual(form(one, ["s(X, Y), u(X, Y) -> t(X, Y)"]), [f"p(A) -> t(A, c{k})" for k in range(6)])
        self.check_too_many(rules(*one), rules("s(X, Y), u(X, Y) -> t(X, Y)", "s(X, c0) -> v(X)"))
        self.check_too_many(rules(*one, "p(X) -> s(X, d)"), rules("s(X, Y), u(X, Y) -> t(X, Y)"))
        self.assertEqual(form(one, ["s(X, Y), u(X, Y) -> t(X, Y)", "s(X, d) -> v(X)"]), [f"p(A) -> t(A, c{k})" for k in range(6)])

    def test_choices_of_all_rules_together(self):
        one = many_rules(20, "p(X) -> s(X, *)")
        self.assertEqual(form(one, ["s(X, Y), s(X, Z), s(X, W) -> t(X)"]), ["p(A) -> t(A)"])
        self.assertEqual(len(joined(rules(*one), rules(*[f"s(X, Y) -> t{k}(X)" for k in range(3)]))), 3)
        self.check_too_many(rules(*one), rules(*[f"s(X, Y) -> t{k}(X)" for k in range(3)], "s(X, c1) -> t4(X)"))
        self.assertEqual(len(joined(rules(*one), rules(*[f"s(X, Y) -> t{k}(X)" for k in range(3)], "s(X, d) -> t4(X)"))), 3)

    def test_an_atom_that_no_rule_tells(self):
        """However many there are for the others, there is no choice then."""
        one = many_rules(24, "p(X) -> s(X, *)")
        self.assertEqual(form(one, ["s(X, A), s(Y, B), s(Z, C), s(X, d) -> t(X, Y, Z)"]), [])
        self.check_too_many(rules(*one), rules("s(X, A), s(Y, B), s(Z, C), s(X, c0) -> t(X, Y, Z, A)"))

    def test_choices_that_cannot_be(self):
        """They count, also where none of them can be."""
        one = many_rules(12, "p(X) -> s(X, *), u(X, f(*))")
        self.check_too_many(rules(*one), rules("s(X, Y), u(X, Y) -> t(X)"))
        one = many_rules(7, "p(X) -> s(X, *), u(X, f(*))")
        self.assertEqual(form(one, ["s(X, Y), u(X, Y) -> t(X)"]), [])

    def test_choices_in_the_least_forms(self):
        one = many_rules(10, "p(X) -> s(X, *)") + many_rules(6, "p(X) -> u(X, *)")
        more = ["p(X), p(Y) -> s(X, c1)", "p(a) -> s(a, c2)", "p(Y) -> u(Y, c3)"]
        ask = ["s(X, Y), u(X, Y) -> t(X, Y)"]
        self.assertEqual(form(one + more, ask), form(one, ask))
        self.assertEqual(form(one, ask + ["s(Z, Y), u(Z, Y), u(Z, W) -> t(Z, Y)", "s(a, Y), u(a, Y) -> t(a, Y)"]), form(one, ask))
        self.assertEqual(form(["p(X) -> s(X)"] * 24, ["s(X), s(X), s(X), s(X) -> t(X)"] * 24), ["p(A) -> t(A)"])

    def test_names_and_variables_of_a_term(self):
        """Z gets 200 of them, and stands nowhere in what comes."""
        words = full_term(24, B)
        for many, good in ((2, True), (3, True), (4, False)):
            inner = ("f", (("f", ("X",) * 4), ("f", ("X",) * 4), ("f", (A,) * many), A))
            one = (((("p", ("X",)),), (("s", (inner, "X")),)),)
            self.assertEqual(8 * 24 + count(inner) - 8, 197 + many)
            other = (((("s", ("Z", words)),), (("r", (A,)),)),)
            if good:
                self.assertEqual(joined(one, other), (((("p", (words,)),), (("r", (A,)),)),))
            else:
                self.check_too_many(one, other)
            clash = (((("s", ("Z", words)), ("s", (A, "Y"))), (("r", (A,)),)),)
            self.assertEqual(joined(one, clash), ())

    def test_atoms_of_a_body(self):
        """Paths of three from X, twice, are one path of three; four and three are one of four."""
        def path(many, word):
            return ", ".join(f"p({one}, {other})" for one, other in zip("XABCD", "ABCDE"[:many])) + f" -> {word}(X)"
        ask = ["s(X), u(X) -> t(X)"]
        self.assertEqual(form([path(3, "s"), path(3, "u")], ask), ["p(A, B), p(B, C), p(C, D) -> t(A)"])
        self.assertEqual(form([path(2, "s"), path(4, "u")], ask), ["p(A, B), p(B, C), p(C, D), p(D, E) -> t(A)"])
        self.check_too_many(rules(path(3, "s"), path(4, "u")), rules(*ask))

    def test_atoms_that_are_the_same_count_once(self):
        one = ["a(X), b(X), c(X), d(X) -> s(X), u(X)", "a(X), b(X), c(X), d(X) -> v(X)"]
        self.assertEqual(form(one, ["s(X), u(X), v(X) -> t(X)"]), ["a(A), b(A), c(A), d(A) -> t(A)"])
        self.check_too_many(rules(*one), rules("s(X), u(Y) -> t(X, Y)"))

    def test_too_many_atoms_where_another_rule_holds_it(self):
        """The seven atoms are too many, though the rule is needless; six are not."""
        one = ["a(X), b(X), c(X) -> s(X)", "d(X), e(X), f(X) -> u(X)", "d(X), e(X), f(X), g(X) -> v(X)"]
        self.assertEqual(form(one + ["a(X) -> w(X)"], ["s(X), u(X) -> t(X)", "w(X) -> t(X)"]), ["a(A) -> t(A)"])
        self.check_too_many(rules(*one, "a(X) -> w(X)"), rules("s(X), v(X) -> t(X)", "w(X) -> t(X)"))
        self.check_too_many(rules(*one), rules("s(X), u(X) -> t(X)"))

    def test_what_comes_has_too_many_atoms(self):
        one = ["p(X, Y), r(Y) -> s(X)", "q(X, Y), r(Y) -> u(X)", "q(X, Y), r(Y), r(f(Y)) -> v(X)"]
        self.assertEqual(form(one, ["s(X), u(X) -> t(X)"]), ["p(A, B), q(A, C), r(B), r(C) -> t(A)"])
        self.check_too_many(rules(*one), rules("s(X), v(X) -> t(X)"))
        self.assertEqual(form(one + ["r(X) -> w(X)"], ["s(X), v(X) -> t(a)", "w(X) -> t(a)"]), ["r(A) -> t(a)"])

    def test_what_comes_has_too_many_rules(self):
        self.assertEqual(len(joined(rules(*many_rules(12, "p(X) -> s(X, *)")), rules("s(X, Y) -> t(X, Y), u(X, Y)"))), 24)
        self.check_too_many(rules(*many_rules(13, "p(X) -> s(X, *)")), rules("s(X, Y) -> t(X, Y), u(X, Y)"))
        self.assertEqual(form(many_rules(13, "p(X) -> s(X, *)"), ["s(X, Y) -> t(X, Y), u(X)"])[-1], "p(A) -> u(A)")
        self.assertEqual(len(joined(rules(*many_rules(24, "p(X) -> s(X, *)")), rules("s(X, Y) -> t(X, Y)"))), 24)
        self.check_too_many(rules(*many_rules(24, "p(X) -> s(X, *)")), rules("s(X, Y) -> t(X, Y), u(X)"))

    def test_what_comes_has_too_great_terms(self):
        one = rules("p(X) -> q(f(f(f(X))))")
        self.assertEqual(book_text(joined(one, rules("q(X) -> r(g(g(X)))"))), "p(A) -> r(g(g(f(f(f(A))))))\n")
        self.check_too_many(one, rules("q(X) -> r(g(g(g(X))))"))
        for many in range(6, 9):
            one = (((("p", ("X",)),), (("q", (full_term(10),)),)),)
            other = (((("q", ("X",)),), (("r", (("g", ("X", "X", full_term(many, A), A)),)),)),)
            self.assertEqual(count(joined(one, other)[0][1][0][1][0]), 22 + many)
        self.check_too_many(one, (((("q", ("X",)),), (("r", (("g", ("X", "X", full_term(9, A), A)),)),)),))

    def test_what_comes_has_too_great_terms_in_its_body(self):
        one = rules("p(X, Y) -> q(f(X), Y)")
        self.assertEqual(form(["p(X, Y) -> q(X, Y)"], ["q(f(f(f(X))), X) -> r(X)"]), ["p(f(f(f(A))), A) -> r(A)"])
        ask = rules("q(X, f(f(f(X)))), q(X, g(Y)) -> r(X)", "q(f(g(g(g(X)))), Y) -> s(X)")
        self.assertEqual(joined(one, ask)[1], read_rule("p(g(g(g(A))), B) -> s(A)"))
        deep = rules("p(X, Y) -> q(f(f(f(X))), X, Y)")
        self.assertEqual(book_text(joined(deep, rules("q(X, Y, X) -> r(Y)"))), "p(A, f(f(f(A)))) -> r(A)\n")
        self.assertEqual(book_text(joined(deep, rules("q(X, Y, g(g(X))) -> r(Y)"))), "p(A, g(g(f(f(f(A)))))) -> r(A)\n")
        self.check_too_many(deep, rules("q(X, Y, g(g(g(X)))) -> r(Y)"))

    def test_too_great_terms_where_another_rule_holds_it(self):
        deep = ["p(X, Y) -> q(f(f(f(X))), X, Y)", "p(X, Y) -> s(a)"]
        self.assertEqual(form(deep, ["q(X, Y, g(g(g(X)))) -> r(a)", "s(X) -> r(a)"]), ["p(A, B) -> r(a)"])
        self.check_too_many(rules(*deep), rules("q(X, Y, g(g(g(X)))) -> r(a)", "s(X) -> r(b)"))

class TestRow(unittest.TestCase):
    def test_one_book(self):
        draw = random.Random(55)
        for book in GOOD_BOOKS + [drawn_book(draw, 4, heads=2) for _ in range(50)]:
            self.assertEqual(unchanged(self, row, [book]), least_form(book))

    def test_several_books(self):
        draw = random.Random(56)
        told = 0
        for _ in range(300):
            books = [drawn_book(draw, 2, deep=draw.choice([1, 2]), heads=2, most=2, **CHAIN) for _ in range(draw.choice([2, 3, 3, 4]))]
            try:
                whole = unchanged(self, row, books)
            except TooMany:
                continue
            self.assertEqual(row(books=books), whole)
            by_hand = least_form(books[0])
            for book in books[1:]:
                by_hand = joined(by_hand, book)
            self.assertEqual(whole, by_hand)
            told += len(whole) > 0
            for rule in whole:
                body, heads = frozen(rule)
                self.assertIn(heads[0], slow_row(books, body))
            for _ in range(3):
                store = drawn_store(draw, 4, kinds=(("p", 2), ("p", 1)))
                self.assertEqual(slow_fill(whole, store), slow_row(books, store))
        self.assertGreater(told, 30)

    def test_in_their_order(self):
        self.assertEqual(form(["a(X) -> b(f(X))"], ["b(X) -> c(g(X))"], ["c(X) -> d(X)"]), ["a(A) -> d(g(f(A)))"])
        self.assertEqual(form(["c(X) -> d(X)"], ["b(X) -> c(g(X))"], ["a(X) -> b(f(X))"]), [])
        self.assertEqual(form(*[["p(X) -> p(X), p(a)"]] * 8), ["p(A) -> p(A)", "p(A) -> p(a)"])

    def test_too_many_on_the_way(self):
        """What is too great on the way is not less so where the last book would ask for little of it."""
        deep = rules("p(X) -> p(f(f(f(X))))")
        back = rules("p(f(f(f(X)))) -> p(X)")
        self.assertEqual(row([deep, back, deep, back, deep]), least_form(deep))
        self.assertRaises(TooMany, unchanged, self, row, [deep, deep, back, back])
        self.assertRaises(TooMany, row, [deep, deep, ()])
        self.assertEqual(row([(), deep, deep]), ())
        self.assertEqual(row([deep, (), deep, deep]), ())

    def test_new(self):
        self.assertEqual(row([(SMALL_RULE,)]), row([(SMALL_RULE,)]))
        self.assertIsInstance(row([(SMALL_RULE,)]), tuple)

    def test_no_row(self):
        check_raises(self, InvalidRow, BAD_ROWS, row)
        deep = rules("p(X) -> p(f(f(f(X))))")
        check_raises(self, InvalidRow, BAD_BOOKS[::5], lambda bad: row([deep, deep, bad]))


class TestIdentity(unittest.TestCase):
    def test_ordinary(self):
        told = unchanged(self, identity, [("p", 2), ("desk", 1), ("p", 1), ("p", 2), ("q", 4), ("a", 3)])
        self.assertEqual(book_text(told), "a(A, B, C) -> a(A, B, C)\ndesk(A) -> desk(A)\np(A) -> p(A)\np(A, B) -> p(A, B)\n"
                                          "q(A, B, C, D) -> q(A, B, C, D)\n")
        self.assertEqual(identity(relations=[]), ())
        self.assertEqual(least_form(told), told)

    def test_order_is_that_of_the_texts(self):
        told = identity([("p", 4), ("p", 1), ("p", 3), ("pp", 1), ("p0", 1), ("p", 2), ("b", 1)])
        lines = book_text(told).split("\n")[:-1]
        self.assertEqual(lines, sorted(lines))
        self.assertEqual(least_form(told), told)

    def test_tells_just_these(self):
        store = facts("p(a)", "p(a, b)", "q(a)", "p(f(a), f(b))", "p(a, b, c)", "q(a, b)")
        self.assertEqual(fill(identity([("p", 2), ("q", 1), ("r", 1)]), store), facts("p(a, b)", "p(f(a), f(b))", "q(a)"))

    def test_on_either_side(self):
        draw = random.Random(57)
        for _ in range(150):
            book = drawn_book(draw, 3, deep=draw.choice([1, 3]), heads=3)
            asked, told = relations(book)
            self.assertEqual(joined(identity(asked), book), least_form(book))
            self.assertEqual(joined(book, identity(told)), least_form(book))
            self.assertEqual(joined(identity(asked + [("z", 4)]), book), least_form(book))
            self.assertEqual(joined(book, identity(told + told + [("z", 4)])), least_form(book))

    def test_numbers(self):
        for many in range(30):
            given = [(f"r{k}", 1 + k % 4) for k in range(many)]
            if many <= 24:
                self.assertEqual(len(identity(given)), many)
                self.assertEqual(len(identity(given[:1] * many)), min(many, 1))
            else:
                self.assertRaises(InvalidRelations, identity, given)
                self.assertRaises(InvalidRelations, identity, given[:1] * many)

    def test_no_relations(self):
        bad = [None, True, 0, "", "p", (), (("p", 1),), ("p", 1), {}, {("p", 1): 1}, [None], [[]], [["p", 1]], [("p",)], [("p", 1, 1)],
               ["p1"], [()], [("p", 1), None], [("p", 1)] * 200, [(1, "p")], [{"p": 1}]]
        bad += [[(name, 1)] for name in BAD_NAMES] + [[("p", number)] for number in BAD_NUMBERS]
        bad += [[("p", 1), (name, 1), ("p", 2)] for name in BAD_NAMES] + [[("p", 1), ("q", number)] for number in BAD_NUMBERS]
        check_raises(self, InvalidRelations, bad, identity)


if __name__ == "__main__":
    unittest.main()
