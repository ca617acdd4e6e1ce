import copy
import random
import unittest

from fillbooks.errors import InvalidBook, InvalidRule, InvalidStore, TooMany
from fillbooks.filling import fill, lays
from fillbooks.texts import read_rule
from helpers import (A, B, BAD_BOOKS, BAD_RULES, BAD_STORES, C, GOOD_STORES, SMALL_RULE, atom, chain, check_raises, count,
                     drawn_rule, drawn_store, facts, full_term, numbered_facts, rules, slow_fill, slow_lays, unchanged,
                     variables_of, within_seconds)


class TestFill(unittest.TestCase):
    def test_the_example(self):
        book = rules("works(X, Y) -> desk(X, no(X)), at(no(X), Y)")
        wanted = [("at", (("no", (A,)), B)), ("desk", (A, ("no", (A,))))]
        self.assertEqual(unchanged(self, fill, book, [("works", (A, B))]), wanted)
        self.assertEqual(fill(book=book, store=[("works", (A, B))]), wanted)

    def test_shared_variables(self):
        book = rules("p(X, Y), p(Y, Z) -> q(X, Z)")
        store = facts("p(a, b)", "p(b, c)", "p(c, a)", "p(c, c)", "r(a, b)", "p(a)")
        self.assertEqual(fill(book, store), facts("q(a, c)", "q(b, a)", "q(b, c)", "q(c, a)", "q(c, b)", "q(c, c)"))

    def test_a_variable_twice_in_an_atom(self):
        self.assertEqual(fill(rules("p(X, X) -> q(X)"), facts("p(a, b)", "p(b, b)", "p(f(a), f(a))", "p(f(a), f(b))")),
                         facts("q(b)", "q(f(a))"))
        self.assertEqual(fill(rules("p(X, f(X, Y), Y) -> q(Y)"), facts("p(a, f(a, b), b)", "p(a, f(b, b), b)", "p(a, f(a, b), a)")),
                         facts("q(b)"))

    def test_constants_and_made_things(self):
        store = facts("p(a, f(b))", "p(b, f(f(c)))", "p(a, b)", "p(a, g(b))", "p(a, f(b, b))", "p(c, f)")
        self.assertEqual(fill(rules("p(a, X) -> q(X)"), store), facts("q(b)", "q(f(b))", "q(f(b, b))", "q(g(b))"))
        self.assertEqual(fill(rules("p(X, f(Y)) -> q(Y, X)"), store), facts("q(b, a)", "q(f(c), b)"))
        self.assertEqual(fill(rules("p(X, f(f(Y))) -> q(h(Y, X), Y)"), store), facts("q(h(c, b), c)"))
        self.assertEqual(fill(rules("p(X, f) -> q(c)"), store), facts("q(c)"))
        self.assertEqual(fill(rules("p(b, f(f(b))) -> q(c)"), store), [])
        self.assertEqual(fill(rules("p(a, f(b)), p(c, f) -> q(a, a)"), store), facts("q(a, a)"))

    def test_made_of_one_thing_and_of_several(self):
        """Also deep within, where nothing but the number of the things tells them apart."""
        store = facts("p(f(f(a)))", "p(f(f(a, b)))", "p(f(f))", "p(f(f(a), b))", "p(f(g(f(b, a))))")
        self.assertEqual(fill(rules("p(f(f(X))) -> q(X)"), store), facts("q(a)"))
        self.assertEqual(fill(rules("p(f(f(X, Y))) -> q(X, Y)"), store), facts("q(a, b)"))
        self.assertEqual(fill(rules("p(f(g(f(X)))) -> q(X)"), store), [])
        self.assertEqual(fill(rules("p(f(f(X), Y)) -> q(X, Y)"), store), facts("q(a, b)"))
        self.assertEqual(lays(read_rule("p(f(f)) -> q(a)"), store), [{}])

    def test_constants_of_digits_beside_variables(self):
        """What is found for one atom is not taken for another one that looks like it."""
        store = facts("p(a, 0)", "p(b, b)", "p(1, a)", "p(0, 1)", "p(c, a)")
        book = rules("p(X, X) -> same(X)", "p(X, 0) -> naught(X)", "p(0, X) -> from(X)", "p(X, Y) -> any(X, Y)", "p(0, 1) -> both(a)",
                     "p(X, a) -> a(X)", "p(1, X) -> one(X)", "p(Y, X) -> turned(X, Y)")
        for order in (book, book[::-1], book[3:] + book[:3]):
            self.assertEqual(fill(order, store), slow_fill(book, store))

    def test_numbers_of_terms_are_told_apart(self):
        store = facts("p(a)", "p(a, b)", "p(a, b, c)", "p(a, b, c, d)")
        for many in range(1, 5):
            names = ", ".join("XYZW"[:many])
            self.assertEqual(fill(rules(f"p({names}) -> q({names})"), store), [("q", store[many - 1][1])])

    def test_what_stands_twice(self):
        book = rules("p(X), p(Y) -> q(X, Y)")
        self.assertEqual(fill(book, facts("p(b)", "p(a)", "p(b)")), facts("q(a, a)", "q(a, b)", "q(b, a)", "q(b, b)"))
        self.assertEqual(fill(book * 24, facts("p(a)") * 30), facts("q(a, a)"))

    def test_empty(self):
        self.assertEqual(fill((), facts("p(a)")), [])
        self.assertEqual(fill((), []), [])
        self.assertEqual(fill(rules("p(X) -> q(X)"), []), [])
        self.assertEqual(fill(rules("p(X) -> q(a)"), facts("q(a)")), [])

    def test_the_store_does_not_stand_in_it(self):
        self.assertEqual(fill(rules("p(X) -> q(X)"), facts("p(a)", "q(b)")), facts("q(a)"))
        self.assertEqual(fill(rules("p(X) -> p(f(X))"), facts("p(a)")), facts("p(f(a))"))

    def test_order(self):
        book = rules("p(X) -> q(X), q(f(X)), a(X)", "p(X) -> q9(X), q(X, X)")
        told = fill(book, facts("p(b)", "p(a)", "p(9)", "p(aa)", "p(f)", "p(f(c))", "p(f(a, a))", "p(z)"))
        self.assertEqual(told, sorted(told))
        self.assertEqual(len(told), 8 * 5)

    def test_facts_of_the_filling_may_be_greater(self):
        value = full_term(30, A)
        self.assertEqual(fill(rules("p(X) -> q(f(f(f(f(f(X))))))"), [("p", (chain(6),))]), [("q", (chain(11, inmost=("c", ())),))])
        head = ("q", (full_term(30),) * 4)
        told = fill((((("p", ("X",)),), (head,)),), [("p", (value,))])
        self.assertEqual(count(told[0]), 1 + 4 * (30 + 29 * repr(full_term(30)).count("'X'")))

    def test_beside_a_slow_answer(self):
        draw = random.Random(12)
        some = 0
        for _ in range(2000):
            book = tuple(drawn_rule(draw, deep=draw.choice([1, 2, 3]), heads=3, most=4) for _ in range(draw.randint(0, 3)))
            store = drawn_store(draw)
            told = unchanged(self, fill, book, store)
            self.assertEqual(told, slow_fill(book, store))
            some += len(told) > 1
        self.assertGreater(some, 200)

    def test_new_lists(self):
        book, store = rules("p(X) -> p(X)"), facts("p(a)", "p(b)")
        first = fill(book, store)
        self.assertIsNot(first, store)
        first.append(3)
        self.assertEqual(fill(book, store), store)
        self.assertIsNot(fill((), []), fill((), []))


class TestLays(unittest.TestCase):
    def test_ordinary(self):
        rule = read_rule("p(Y, X), p(X, Z) -> q(Y)")
        store = facts("p(b, a)", "p(a, c)", "p(a, b)", "p(b, a)")
        wanted = [{"X": A, "Y": B, "Z": B}, {"X": A, "Y": B, "Z": C}, {"X": B, "Y": A, "Z": A}]
        self.assertEqual(unchanged(self, lays, rule, store), wanted)
        self.assertEqual(lays(rule=rule, store=store), wanted)

    def test_order_of_the_variables(self):
        rule = read_rule("p(Z, AA, B, A) -> q(A)")
        store = [("p", tuple((sign, ()) for sign in row)) for row in ("aabb", "baaa", "abab", "bbba", "aaba", "abba")]
        told = lays(rule, store)
        rows = [tuple(ways[name][0] for name in ("A", "AA", "B", "Z")) for ways in told]
        self.assertEqual(rows, sorted(rows))
        self.assertEqual(len(rows), 6)
        for ways in told:
            self.assertEqual(list(ways), ["A", "AA", "B", "Z"])

    def test_no_variables(self):
        rule = read_rule("p(a), p(f(b)) -> q(a)")
        self.assertEqual(lays(rule, facts("p(a)", "p(f(b))", "p(a)")), [{}])
        self.assertEqual(lays(rule, facts("p(a)", "p(b)")), [])

    def test_variables_that_no_head_has(self):
        self.assertEqual(lays(read_rule("p(X, Y) -> q(a)"), facts("p(a, b)", "p(a, c)")), [{"X": A, "Y": B}, {"X": A, "Y": C}])

    def test_one_for_each_way(self):
        rule = read_rule("p(X), p(Y) -> q(X)")
        self.assertEqual(lays(rule, facts("p(a)") * 30), [{"X": A, "Y": A}])
        self.assertEqual(len(lays(rule, numbered_facts(5) + numbered_facts(7))), 49)
        self.assertEqual(lays(rule, []), [])

    def test_beside_a_slow_answer(self):
        draw = random.Random(13)
        some = 0
        for _ in range(2000):
            rule = drawn_rule(draw, deep=draw.choice([1, 2, 3]), heads=2, most=4)
            store = drawn_store(draw)
            told = unchanged(self, lays, rule, store)
            names = sorted(set().union(*[variables_of(part) for part in rule[0]]))
            wanted = sorted(slow_lays(rule[0], store), key=lambda ways: tuple(ways[name] for name in names))
            self.assertEqual(told, wanted)
            some += len(told) > 1
        self.assertGreater(some, 200)

    def test_new_lists_and_dicts(self):
        rule, store = read_rule("p(X), r(Y) -> q(X)"), facts("p(a)", "r(a)", "r(b)")
        first = lays(rule, store)
        wanted = copy.deepcopy(first)
        self.assertIsNot(first[0], first[1])
        first[0]["X"] = 3
        first.pop()
        self.assertEqual(lays(rule, store), wanted)
        same = lays(read_rule("p(a) -> q(a)"), facts("p(a)"))
        same[0]["X"] = A
        self.assertEqual(lays(read_rule("p(a) -> q(a)"), facts("p(a)")), [{}])


class TestTooMany(unittest.TestCase):
    def check_both(self, text, store, ways):
        """The rule can be laid in so many ways; None if it is too many."""
        rule = read_rule(text)
        with within_seconds():
            if ways is None:
                self.assertRaises(TooMany, unchanged, self, fill, (rule,), store)
                self.assertRaises(TooMany, unchanged, self, lays, rule, store)
                self.assertRaises(TooMany, fill, (SMALL_RULE, rule, SMALL_RULE), store)
            else:
                self.assertEqual(len(lays(rule, store)), ways)
                self.assertLessEqual(len(fill((rule,), store)), ways)

    def test_at_the_end_of_a_body(self):
        for some, ways in ((10, 1000), (9, 729), (11, None), (12, None), (30, None)):
            self.check_both("p(X), p(Y), p(Z) -> q(X, Y, Z)", numbered_facts(some), ways)
        self.check_both("p(X), r(Y), s(Z) -> q(X, Y, Z)", numbered_facts(8) + numbered_facts(5, "r") + numbered_facts(17, "s"), 680)
        self.check_both("p(X), r(Y), s(Z) -> q(X, Y, Z)", numbered_facts(10) + numbered_facts(10, "r") + numbered_facts(10, "s"), 1000)
        self.check_both("p(X), r(Y), s(Z) -> q(X, Y, Z)", numbered_facts(9) + numbered_facts(10, "r") + numbered_facts(11, "s"), 990)
        self.check_both("p(X), r(Y), p(Z) -> q(X, Y, Z)", numbered_facts(10) + numbered_facts(11, "r"), None)
        self.check_both("p(X), p(Y), r(Z) -> q(a)", numbered_facts(25) + numbered_facts(1, "r"), 625)
        self.check_both("p(X), p(Y), r(Z) -> q(a)", numbered_facts(28) + numbered_facts(2, "r"), None)
        self.check_both("p(X), p(Y) -> q(X)", numbered_facts(30), 900)

    def test_just_one_thousand_and_one(self):
        """Of 10 things and of one alone: 10 times 10 times 10 and one."""
        store = numbered_facts(7) + numbered_facts(11, "r") + numbered_facts(12, "s")
        self.check_both("p(X), r(Y), s(Z) -> q(Y)", store, 924)
        self.check_both("p(X), r(Y), s(X), p(Z) -> q(Y)", store, 7 * 11 * 7)
        pairs = [atom("e", (f"n{k}", ()), (f"m{j}", ())) for k in range(3) for j in range(10)]
        self.check_both("e(X, Y), e(X, Z), e(X, W) -> q(X)", pairs, None)
        self.check_both("e(X, Y), e(X, Z), e(U, W) -> q(X)", pairs[:10] + pairs[10:15] + pairs[20:23], None)
        self.check_both("e(X, Y), e(X, Z), e(X, W) -> q(X)", pairs[:10], 1000)
        self.check_both("e(X, Y), e(X, Z), e(X, W) -> q(X)", pairs[:11], None)
        self.check_both("e(X, Y), e(X, Z), e(X, W) -> q(X)", pairs[:9] + pairs[10:16] + pairs[20:23], 729 + 216 + 27)

    def test_one_thousand_and_one_on_the_way(self):
        seven = [atom("e", (f"n{k}", ()), (f"m{k}", ())) for k in range(7)]
        self.check_both("e(X, Y), e(Z, W), e(U, V) -> q(X)", seven, 343)
        self.check_both("e(X, Y), e(Z, W), e(U, V), e(X, Z) -> q(X)", seven, 0)
        self.check_both("e(X, Y), e(Z, W), e(U, V), e(V, Z) -> q(X)", seven + numbered_facts(23, "e"), 0)
        eleven = [atom("e", (f"n{k}", ()), (f"m{k}", ())) for k in range(11)]
        self.check_both("e(X, Y), e(Z, W), e(U, V), e(V, Z) -> q(X)", eleven, None)

    def test_on_the_way_where_a_later_atom_lets_none(self):
        for some, ways in ((10, 0), (11, None), (29, None)):
            self.check_both("p(X), p(Y), p(Z), r(W) -> q(X)", numbered_facts(some), ways)
            self.check_both("p(X), p(Y), p(Z), p(f(X)) -> q(X)", numbered_facts(some), ways)
            self.check_both("r(W), p(X), p(Y), p(Z) -> q(X)", numbered_facts(some), 0)
        self.check_both("p(X), p(Y), p(Z), r(X, Y, Z) -> q(X)", numbered_facts(25) + [("r", (A, A, A))], None)
        self.check_both("p(X), r(X, Y, Z), p(Y), p(Z) -> q(X)", numbered_facts(25) + [("r", (A, A, A))], 0)
        self.check_both("p(X), p(Y), p(X), p(Y) -> q(X)", numbered_facts(30), 900)

    def test_what_stands_twice_counts_once(self):
        self.check_both("p(X), p(Y), p(Z) -> q(X)", numbered_facts(10) * 3, 1000)
        self.check_both("p(X), p(Y), p(Z), p(W) -> q(X)", numbered_facts(5) * 6, 625)
        self.check_both("p(X), p(Y), p(Z), p(W) -> q(X)", numbered_facts(6) * 5, None)

    def test_each_rule_by_itself(self):
        book = rules("p(X), p(Y), p(Z) -> q(X, Y, Z)") * 24
        with within_seconds():
            self.assertEqual(len(fill(book, numbered_facts(10))), 1000)
        book = tuple(read_rule(f"p(X), p(Y), p(Z) -> q{k}(X, f(Y, g(Z)))") for k in range(24))
        with within_seconds():
            self.assertEqual(len(fill(book, numbered_facts(10))), 24000)
        self.assertRaises(TooMany, fill, book, numbered_facts(11))

    def test_great_values(self):
        values = [("f", (full_term(28, A), (f"n{k}", ()))) for k in range(10)]
        book = tuple(((("p", ("X",)), ("p", ("Y",)), ("p", ("Z",))), ((f"q{k}", (full_term(30), full_term(30, "Y"), "Z")),))
                     for k in range(24))
        with within_seconds():
            self.assertEqual(len(fill(book, [("p", (value,)) for value in values])), 24000)


class TestInvalid(unittest.TestCase):
    def test_no_book(self):
        for store in ([], [("p", (A,))], None, [None]):
            check_raises(self, InvalidBook, BAD_BOOKS, lambda book, store=store: fill(book, store))

    def test_no_rule(self):
        for store in ([], [("p", (A,))], None, [None]):
            check_raises(self, InvalidRule, BAD_RULES, lambda rule, store=store: lays(rule, store))

    def test_no_store(self):
        for book in ((), (SMALL_RULE,), rules("p(X), p(Y), p(Z), p(W) -> q(X)")):
            check_raises(self, InvalidStore, BAD_STORES, lambda store, book=book: fill(book, store))
        for rule in (SMALL_RULE, read_rule("p(X), p(Y), p(Z), p(W) -> q(X)")):
            check_raises(self, InvalidStore, BAD_STORES, lambda store, rule=rule: lays(rule, store))

    def test_stores(self):
        for store in GOOD_STORES:
            self.assertEqual(unchanged(self, fill, (), store), [])
            self.assertEqual(fill(rules("p(X) -> p(X)"), store), slow_fill(rules("p(X) -> p(X)"), store))

    def test_numbers_of_facts(self):
        for many in range(28, 34):
            for store in (numbered_facts(many), numbered_facts(1) * many):
                if many <= 30:
                    self.assertEqual(len(fill((SMALL_RULE,), store)), len({fact for fact in store}))
                    self.assertEqual(len(lays(SMALL_RULE, store)), len({fact for fact in store}))
                else:
                    self.assertRaises(InvalidStore, fill, (SMALL_RULE,), store)
                    self.assertRaises(InvalidStore, lays, SMALL_RULE, store)

    def test_facts_with_variables(self):
        for fact in (("p", ("X",)), ("p", (A, "X")), ("p", (("f", (A, "X")),)), ("p", (chain(6, inmost="X"),))):
            self.assertRaises(InvalidStore, fill, (), [fact])
            self.assertRaises(InvalidStore, fill, (), [("p", (A,)), fact])
            self.assertRaises(InvalidStore, lays, SMALL_RULE, [fact])


if __name__ == "__main__":
    unittest.main()
