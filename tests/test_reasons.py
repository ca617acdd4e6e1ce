import itertools
import random
import unittest

from fillbooks.errors import InvalidBook, InvalidChange, InvalidFact, InvalidStore, TooMany
from fillbooks.filling import fill
from fillbooks.reasons import changes, needless, reasons
from helpers import (A, B, BAD_BOOKS, BAD_FACTS, BAD_STORES, C, SMALL_RULE, chain, check_raises, drawn_book, drawn_store, facts,
                     full_term, nested, numbered_facts, rules, slow_fill, unchanged, within_seconds)

THREE = rules("p(X), p(Y), p(Z) -> q(X, Y, Z)")


def slow_reasons(book, store, fact):
    """By a look at all parts of the store, the small ones first."""
    unlike, found = sorted(set(store)), []
    for many in range(len(unlike) + 1):
        for part in itertools.combinations(unlike, many):
            if not any(set(known) <= set(part) for known in found) and fact in slow_fill(book, list(part)):
                found.append(list(part))
    return sorted(found)


def slow_needless(book, store):
    whole = slow_fill(book, store)
    return [fact for fact in sorted(set(store)) if slow_fill(book, [other for other in store if other != fact]) == whole]


def slow_changes(book, store, come, go):
    before = slow_fill(book, store)
    after = slow_fill(book, [fact for fact in store if fact not in go] + come)
    return [fact for fact in after if fact not in before], [fact for fact in before if fact not in after]


class TestReasons(unittest.TestCase):
    def check(self, texts, store, fact, wanted):
        """Each reason is told as a list of the texts of its facts."""
        told = unchanged(self, reasons, rules(*texts), facts(*store), facts(fact)[0])
        self.assertEqual(told, [facts(*some) for some in wanted])
        self.assertEqual(reasons(fact=facts(fact)[0], store=facts(*store), book=rules(*texts)), told)

    def test_the_example(self):
        told = reasons(rules("p(X, Y), p(Y, Z) -> q(X)"), facts("p(a, a)", "p(a, b)", "p(b, c)"), facts("q(a)")[0])
        self.assertEqual(told, [facts("p(a, a)"), facts("p(a, b)", "p(b, c)")])

    def test_ordinary(self):
        self.check(["p(X) -> q(X)"], ["p(a)", "p(b)"], "q(a)", [["p(a)"]])
        self.check(["p(X) -> q(X)", "r(X) -> q(X)"], ["r(a)", "p(a)"], "q(a)", [["p(a)"], ["r(a)"]])
        self.check(["p(X), r(Y) -> q(X)"], ["r(b)", "r(a)", "p(a)"], "q(a)", [["p(a)", "r(a)"], ["p(a)", "r(b)"]])
        self.check(["p(X), r(X) -> q(X)", "p(X) -> q(X)"], ["r(a)", "p(a)"], "q(a)", [["p(a)"]])
        self.check(["p(X), r(Y) -> q(a)", "p(b) -> q(a)"], ["p(a)", "p(b)", "r(c)"], "q(a)", [["p(a)", "r(c)"], ["p(b)"]])
        self.check(["p(X) -> r(X), q(f(X)), q(X)"], ["p(f(a))", "p(a)"], "q(f(a))", [["p(a)"], ["p(f(a))"]])

    def test_one_to_four_facts(self):
        store = ["p(a, b)", "p(b, c)", "p(c, d)", "p(d, e)", "p(a, a)"]
        rule = "p(X, Y), p(Y, Z), p(Z, W), p(W, V) -> q(X, V)"
        self.check([rule], store, "q(a, a)", [["p(a, a)"]])
        self.check([rule], store, "q(a, b)", [["p(a, a)", "p(a, b)"]])
        self.check([rule], store, "q(a, c)", [["p(a, a)", "p(a, b)", "p(b, c)"]])
        self.check([rule], store, "q(a, d)", [["p(a, a)", "p(a, b)", "p(b, c)", "p(c, d)"]])
        self.check([rule], store, "q(a, e)", [["p(a, b)", "p(b, c)", "p(c, d)", "p(d, e)"]])
        self.check([rule], store, "q(b, e)", [])

    def test_facts_that_are_not_told(self):
        for fact in ("q(c)", "p(a)", "q(a, a)", "z(a)", "q(f(a))"):
            self.check(["p(X) -> q(X)"], ["p(a)", "p(b)"], fact, [])
        self.check([], ["p(a)"], "p(a)", [])
        self.check(["p(X) -> q(X)"], [], "q(a)", [])

    def test_facts_twice(self):
        self.check(["p(X), r(Y) -> q(X)"], ["r(b)", "p(a)", "r(b)", "r(a)", "p(a)", "r(b)"], "q(a)", [["p(a)", "r(a)"], ["p(a)", "r(b)"]])
        self.check(["p(X), p(X), p(Y) -> q(X)"], ["p(a)"] * 20 + ["p(b)"] * 10, "q(a)", [["p(a)"]])

    def test_order(self):
        told = reasons(rules("p(X), p(Y) -> q(a)", "r(X), p(Y), s(Z) -> t(a)"), facts("p(b)", "p(a)", "r(c)", "r(b)", "s(f(a))", "s(a)"), facts("t(a)")[0])
        self.assertEqual(told, sorted(told))
        self.assertEqual(len(told), 8)
        for some in told:
            self.assertEqual(some, sorted(some))

    def test_beside_all_parts_of_small_stores(self):
        draw = random.Random(121)
        many = {}
        for _ in range(500):
            book = drawn_book(draw, 3, deep=draw.choice([1, 2, 3]), heads=2, most=4, variables="XYZ")
            store = drawn_store(draw, 6, values=(A, B, ("f", (A,))))
            for fact in slow_fill(book, store)[:3] + [("q", (A,))]:
                told = unchanged(self, reasons, book, store, fact)
                self.assertEqual(told, slow_reasons(book, store, fact), (book, store, fact))
                for some in told:
                    many[len(some)] = many.get(len(some), 0) + 1
        self.assertGreater(min(many.get(count, 0) for count in (1, 2, 3)), 15)

    def test_facts_greater_than_those_of_a_store(self):
        """A fact of the filling may be too great to be passed, and then it is no fact."""
        book = rules("p(X) -> q(f(f(X))), q(f(X))")
        store = [("p", (chain(5, inmost=A),)), ("p", (chain(4, inmost=A),))]
        self.assertEqual(reasons(book, store, ("q", (chain(6, inmost=A),))), [store[1:], store[:1]])
        self.assertRaises(InvalidFact, reasons, book, store, ("q", (chain(7, inmost=A),)))

    def test_new_lists(self):
        book, store, fact = rules("p(X), p(Y) -> q(a)"), facts("p(a)", "p(b)"), facts("q(a)")[0]
        first = reasons(book, store, fact)
        first[0].append(3)
        first.append([])
        self.assertEqual(reasons(book, store, fact), [facts("p(a)"), facts("p(b)")])
        several = reasons(rules("p(X), r(a) -> q(a)"), facts("p(a)", "p(b)", "r(a)"), fact)
        self.assertEqual(len({id(some) for some in several}), 2)

    def test_errors_in_their_order(self):
        for rest in (([], ("q", (A,))), (None, None), ([None], ("q", ("X",)))):
            check_raises(self, InvalidBook, BAD_BOOKS[::2], lambda bad, rest=rest: reasons(bad, *rest))
        for book in ((SMALL_RULE,), rules("p(X), p(Y), p(Z), p(W) -> q(X)")):
            for fact in (("q", (A,)), None, ("q", ("X",))):
                check_raises(self, InvalidStore, BAD_STORES[::2], lambda bad, book=book, fact=fact: reasons(book, bad, fact))
            for store in ([], numbered_facts(11), numbered_facts(30)):
                check_raises(self, InvalidFact, BAD_FACTS[::3], lambda bad, book=book, store=store: reasons(book, store, bad))
        check_raises(self, InvalidFact, BAD_FACTS, lambda bad: reasons((SMALL_RULE,), facts("p(a)"), bad))

    def test_too_many(self):
        fact = ("q", (("n0", ()), ("n1", ()), ("n2", ())))
        self.assertEqual(reasons(THREE, numbered_facts(10), fact), [numbered_facts(3)])
        for wanted in (fact, ("q", (A,)), ("z", (A,))):
            self.assertRaises(TooMany, unchanged, self, reasons, THREE, numbered_facts(11), wanted)
            self.assertRaises(TooMany, reasons, rules("z(X) -> z(X)", "p(X), p(Y), p(Z), r(X) -> q(X)"), numbered_facts(11), wanted)
        self.assertEqual(reasons(rules("p(X), p(Y), p(Z), r(X) -> q(X)"), numbered_facts(10), fact), [])

    def test_slowest(self):
        book = rules(*["p(X), p(Y), p(Z), r(a) -> q(a)"] * 24)
        with within_seconds():
            self.assertEqual(len(reasons(book, numbered_facts(10) + facts("r(a)"), facts("q(a)")[0])), 10)
        book = rules(*[f"p(X), r{k}(Y), s(Z), t(W) -> q(a)" for k in range(24)])
        store = numbered_facts(9) + [(f"r{k}", (A,)) for k in range(9)] + numbered_facts(6, "s") + numbered_facts(6, "t")
        with within_seconds():
            self.assertEqual(len(reasons(book, store, facts("q(a)")[0])), 9 * 9 * 36)
        great = full_term(26)
        book = tuple(((("p", (great, "Y", f"Z{sign}", great)),) * 1 + (("p", ("X", "Y", "Z", "W")), ("p", ("U", "Y", "V", "S"))),
                      (("q", ("X", "Y", great, great)),)) for sign in "ABCDEFGHIJKLMNOPQRSTUVWX")
        store = [("p", (full_term(26, A), A, (f"n{k}", ()), full_term(26, A))) for k in range(10)]
        with within_seconds():
            self.assertEqual(needless(book, store), store)


class TestNeedless(unittest.TestCase):
    def check(self, texts, store, wanted):
        told = unchanged(self, needless, rules(*texts), facts(*store))
        self.assertEqual(told, facts(*wanted))
        self.assertEqual(needless(store=facts(*store), book=rules(*texts)), told)

    def test_ordinary(self):
        self.check(["p(X) -> q(X)"], ["p(a)", "p(b)"], [])
        self.check(["p(X) -> q(X)"], ["p(a)", "r(b)", "p(a, a)"], ["p(a, a)", "r(b)"])
        self.check(["p(X, Y) -> q(X)"], ["p(a, b)", "p(b, b)"], [])
        self.check([], ["p(b)", "p(a)"], ["p(a)", "p(b)"])
        self.check(["p(X) -> q(X)"], [], [])
        self.check(["p(X), r(X) -> q(X)"], ["p(a)", "r(b)", "p(c)", "r(c)"], ["p(a)", "r(b)"])

    def test_facts_that_stand_for_one_another(self):
        """Each of the two could be left out alone, not both."""
        self.check(["p(X, Y) -> q(X)"], ["p(a, c)", "p(a, b)", "p(b, b)"], ["p(a, b)", "p(a, c)"])
        self.check(["p(X) -> q(X)", "r(X) -> q(X)"], ["r(a)", "p(a)", "p(b)"], ["p(a)", "r(a)"])
        self.check(["p(X, Y), p(Y, Z) -> q(X)"], ["p(a, a)", "p(a, b)", "p(b, c)"], ["p(a, a)", "p(a, b)", "p(b, c)"])
        self.check(["p(X, Y), p(Y, Z) -> q(X)"], ["p(a, b)", "p(b, c)", "p(b, b)"], ["p(b, c)"])
        self.check(["p(X), r(Y) -> q(X)", "s(X), r(X) -> q(X)"], ["p(a)", "r(a)", "r(b)", "s(a)"], ["p(a)", "r(a)", "r(b)", "s(a)"])
        self.check(["p(X), r(Y) -> q(X)", "s(X), r(X) -> q(X)"], ["p(a)", "r(a)", "s(a)"], ["p(a)", "s(a)"])

    def test_wherever_it_stands(self):
        """What stands twice is left out at both places."""
        self.check(["p(X) -> q(X)"], ["p(a)", "p(a)", "r(b)", "p(a)", "r(b)"], ["r(b)"])
        self.check(["p(X, Y) -> q(X)"], ["p(a, b)", "p(a, c)", "p(a, b)", "p(a, c)"], ["p(a, b)", "p(a, c)"])

    def test_beside_slow_answers(self):
        draw = random.Random(122)
        some = 0
        for _ in range(800):
            book = drawn_book(draw, 3, deep=draw.choice([1, 2, 3]), heads=2, most=3)
            store = drawn_store(draw, 7, values=(A, B, ("f", (A,))))
            told = unchanged(self, needless, book, store)
            self.assertEqual(told, slow_needless(book, store), (book, store))
            some += 0 < len(told) < len(set(store))
        self.assertGreater(some, 100)

    def test_new_lists(self):
        store = facts("p(a)")
        needless((), store).append(3)
        self.assertEqual(needless((), store), store)
        self.assertIsNot(needless((), store), store)

    def test_errors_in_their_order(self):
        for store in ([], None, [None]):
            check_raises(self, InvalidBook, BAD_BOOKS, lambda bad, store=store: needless(bad, store))
        for book in ((), (SMALL_RULE,), rules("p(X), p(Y), p(Z), p(W) -> q(X)")):
            check_raises(self, InvalidStore, BAD_STORES, lambda bad, book=book: needless(book, bad))

    def test_too_many(self):
        self.assertEqual(needless(THREE, numbered_facts(10)), [])
        self.assertRaises(TooMany, unchanged, self, needless, THREE, numbered_facts(11))
        self.assertRaises(TooMany, needless, rules("p(X), p(Y), p(Z), r(X) -> q(X)"), numbered_facts(11))
        self.assertEqual(needless(rules("p(X), p(Y), p(Z), r(X) -> q(X)"), numbered_facts(10)), numbered_facts(10))

    def test_slowest(self):
        book = rules(*[f"p(X), p(Y), p(Z) -> q{k}(X, f(Y), Z)" for k in range(24)])
        with within_seconds():
            self.assertEqual(needless(book, numbered_facts(10) + facts("r(a)")), facts("r(a)"))


class TestChanges(unittest.TestCase):
    def check(self, texts, store, come, go, wanted):
        book, lists = rules(*texts), [facts(*some) for some in (store, come, go)]
        told = unchanged(self, changes, book, *lists)
        self.assertEqual(told, tuple(facts(*some) for some in wanted))
        self.assertIsInstance(told, tuple)
        self.assertEqual(changes(go=lists[2], come=lists[1], store=lists[0], book=book), told)

    def test_ordinary(self):
        self.check(["p(X) -> q(X)"], ["p(a)", "p(b)"], ["p(c)"], ["p(a)"], (["q(c)"], ["q(a)"]))
        self.check(["p(X, Y) -> q(X)"], ["p(a, b)"], ["p(a, c)"], ["p(a, b)"], ([], []))
        self.check(["p(X), r(Y) -> q(X, Y)"], ["p(a)", "r(b)"], ["p(c)", "r(d)"], ["r(b)"], (["q(a, d)", "q(c, d)"], ["q(a, b)"]))
        self.check(["p(X) -> q(X)"], ["p(a)"], [], [], ([], []))
        self.check(["p(X) -> q(X)"], [], ["p(b)", "p(a)"], [], (["q(a)", "q(b)"], []))
        self.check(["p(X) -> q(X)"], ["p(b)", "p(a)"], [], ["p(b)", "p(a)"], ([], ["q(a)", "q(b)"]))
        self.check([], ["p(b)"], ["p(a)"], ["p(b)"], ([], []))

    def test_lost_and_told_anew_by_another_body(self):
        self.check(["p(X) -> q(X)", "r(X) -> q(X), s(X)"], ["p(a)"], ["r(a)"], ["p(a)"], (["s(a)"], []))
        self.check(["p(X), r(Y) -> q(X)"], ["p(a)", "r(b)"], ["r(c)"], ["r(b)"], ([], []))

    def test_facts_twice(self):
        self.check(["p(X) -> q(X)"], ["p(a)", "p(a)", "p(b)"], ["p(c)", "p(c)"], ["p(a)"], (["q(c)"], ["q(a)"]))
        self.check(["p(X) -> q(X)"], ["p(a)", "p(b)"], ["p(d)", "p(c)"] * 15, ["p(a)"] * 30, (["q(c)", "q(d)"], ["q(a)"]))

    def test_beside_two_fillings(self):
        draw = random.Random(123)
        some = 0
        for _ in range(600):
            book = drawn_book(draw, 3, deep=draw.choice([1, 2, 3]), heads=2, most=3)
            values = (A, B, ("f", (A,)))
            store = drawn_store(draw, 7, values=values)
            come = [fact for fact in drawn_store(draw, 5, values=values) if fact not in store]
            go = [fact for fact in store if draw.random() < 0.3]
            told = unchanged(self, changes, book, store, come, go)
            self.assertEqual(told, slow_changes(book, store, come, go), (book, store, come, go))
            some += told[0] != [] and told[1] != []
        self.assertGreater(some, 25)

    def test_great_facts(self):
        book = rules("p(X) -> q(f(f(f(f(f(X))))))")
        store = [("p", (chain(6, inmost=A),))]
        told = changes(book, store, [("p", (chain(6, inmost=B),))], store)
        self.assertEqual(told, ([("q", (chain(11, inmost=B),))], [("q", (chain(11, inmost=A),))]))

    def test_new_lists(self):
        book, store = rules("p(X) -> p(X)"), facts("p(a)")
        come, go = facts("p(b)"), facts("p(a)")
        first = changes(book, store, come, go)
        first[0].append(3)
        first[1].clear()
        self.assertEqual(changes(book, store, come, go), (facts("p(b)"), facts("p(a)")))
        same = changes(book, store, [], [])
        self.assertIsNot(same[0], same[1])

    def test_no_change(self):
        book, store = rules("p(X) -> q(X)"), facts("p(a)", "p(b)", "r(a)")
        bad = [bad for bad in BAD_STORES] + [facts("p(c)") * 31, facts("p(c)") * 200, facts("p(c)", "p(a)"), facts("r(a)"), nested(50, lambda thing: [thing])]
        check_raises(self, InvalidChange, bad, lambda come: changes(book, store, come, []))
        check_raises(self, InvalidChange, bad[::4], lambda come: changes(book, store, come, facts("p(a)")))
        check_raises(self, InvalidChange, bad[::4], lambda come: changes(book, store, come, None))
        bad = [bad for bad in BAD_STORES] + [facts("p(a)") * 31, facts("p(c)"), facts("p(a)", "p(c)"), facts("p(a, b)"), facts("q(a)"), facts("p(f(a))")]
        check_raises(self, InvalidChange, bad, lambda go: changes(book, store, [], go))
        check_raises(self, InvalidChange, bad[::4], lambda go: changes(book, store, facts("p(c)"), go))

    def test_what_goes_cannot_come(self):
        self.assertRaises(InvalidChange, changes, (SMALL_RULE,), facts("p(a)"), facts("p(a)"), facts("p(a)"))
        self.assertRaises(InvalidChange, changes, (SMALL_RULE,), [], facts("p(a)"), facts("p(a)"))

    def test_numbers_of_facts(self):
        book, many = (SMALL_RULE,), numbered_facts(30)
        more = [("p", ((f"m{k}", ()),)) for k in range(30)]
        self.assertEqual(len(changes(book, many, more, many)[0]), 30)
        self.assertEqual(len(changes(book, many[:29], more[:1], [])[0]), 1)
        self.assertEqual(len(changes(book, many[:29], more[:1] * 30, [])[0]), 1)
        self.assertEqual(len(changes(book, many[:15] * 2, more[:15], [])[0]), 15)
        self.assertEqual(len(changes(book, many, more[:3], many[:3])[0]), 3)
        for come, go in ((more[:1], []), (more[:4], many[:3]), (more, many[:29])):
            self.assertRaises(InvalidChange, changes, book, many, come, go)
        self.assertRaises(InvalidChange, changes, book, many[:15] * 2, more[:16], [])
        self.assertRaises(InvalidChange, changes, book, many[:1], more, [])

    def test_errors_in_their_order(self):
        for rest in (([], [], []), (None, None, None), ([None], facts("p(a)"), facts("p(a)"))):
            check_raises(self, InvalidBook, BAD_BOOKS[::2], lambda bad, rest=rest: changes(bad, *rest))
        for book in ((SMALL_RULE,), rules("p(X), p(Y), p(Z), p(W) -> q(X)")):
            for come, go in (([], []), (None, None), (facts("p(a)"), facts("p(b)"))):
                check_raises(self, InvalidStore, BAD_STORES[::2], lambda bad, book=book, come=come, go=go: changes(book, bad, come, go))
        for come, go in ((None, []), ([], None), (numbered_facts(1), []), ([], facts("z(a)"))):
            self.assertRaises(InvalidChange, changes, THREE, numbered_facts(11), come, go)

    def test_too_many(self):
        """Ahead of the change, though it would be less behind it, and behind it."""
        many, more = numbered_facts(10), [("p", (C,))]
        self.assertEqual(len(changes(THREE, many, [], many[:1])[1]), 271)
        self.assertEqual(len(changes(THREE, many, more, many[:1])[0]), 271)
        self.assertRaises(TooMany, unchanged, self, changes, THREE, many, more, [])
        self.assertRaises(TooMany, unchanged, self, changes, THREE, many + more, [], more)
        self.assertRaises(TooMany, changes, THREE, many + more, [], many)
        self.assertRaises(TooMany, changes, THREE, many + more, [], [])
        self.assertEqual(len(changes(THREE, many[:9], more, [])[0]), 271)

    def test_slowest(self):
        book = rules(*[f"p(X), p(Y), p(Z) -> q{k}(X, f(Y), Z)" for k in range(24)])
        many, more = numbered_facts(10), [("p", ((f"m{k}", ()),)) for k in range(10)]
        with within_seconds():
            come, go = changes(book, many, more, many)
        self.assertEqual((len(come), len(go)), (24000, 24000))
        self.assertEqual(fill(book[:1], more), [fact for fact in come if fact[0] == "q0"])


if __name__ == "__main__":
    unittest.main()
