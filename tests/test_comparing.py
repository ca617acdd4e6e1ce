import random
import unittest

from fillbooks.books import check_book
from fillbooks.comparing import alike, never_more, parting
from fillbooks.errors import InvalidBook, TooMany
from fillbooks.filling import fill
from helpers import (A, B, BAD_BOOKS, GOOD_BOOKS, SMALL_RULE, alike_book, all_stores, chain, check_raises, count, drawn_book,
                     facts, full_term, levels, rules, slow_alike, slow_fill, slow_never_more, unchanged, within_seconds)

X, Y = ("x", ()), ("y", ())
LETTERS = "ABCDEFGHIJKLMNOP"
FLAT = {"variables": "XY", "relations": (("p", 2), ("r", 1)), "told": (("q", 1),)}


class SmallStores:
    """A slow answer over all small stores.

    Books of two variables for each rule and one constant, with bodies of no more atoms than facts:
    if two of them are parted by any store, they are parted by one of these.
    """

    def __init__(self, kinds, values, most):
        self.stores = all_stores(kinds, values, most)

    def fillings(self, book):
        return [set(slow_fill(book, store)) for store in self.stores]

    def never_more(self, one, other):
        return all(left <= right for left, right in zip(one, other))

    def fewest(self, one, other):
        """The number of facts of the smallest store that parts the fillings; None if none does."""
        unlike = [len(store) for store, left, right in zip(self.stores, one, other) if left != right]
        return min(unlike, default=None)


def drawn_flat(draw):
    """A book of constants `a` and variables X and Y alone."""
    def part():
        return draw.choice(["X", "Y", "X", "Y", A])
    book = []
    for _ in range(draw.randint(0, 2)):
        body = tuple(draw.choice([("p", (part(), part())), ("r", (part(),))]) for _ in range(draw.randint(1, 3)))
        known = sorted({name for _, terms in body for name in terms if isinstance(name, str)}) or [A]
        book.append((body, (("q", (draw.choice(known + [A]),)),)))
    return tuple(book)


def drawn_deep(draw):
    """A book over relations of one term, with things made of one thing."""
    def part(names):
        return draw.choice(names + names + [("f", (draw.choice(names),)), A, ("f", (A,))])
    book = []
    for _ in range(draw.randint(0, 2)):
        body = tuple((draw.choice("pr"), (part(["X", "Y"]),)) for _ in range(draw.randint(1, 2)))
        known = [name for name in ("X", "Y") if name in repr(body)] or [A]
        book.append((body, (("q", (part(known),)),)))
    return tuple(book)


class TestNeverMore(unittest.TestCase):
    def test_the_example(self):
        one, other = rules("p(X, Y) -> q(X)"), rules("p(X, X) -> q(X)")
        self.assertIs(unchanged(self, never_more, other, one), True)
        self.assertIs(unchanged(self, never_more, one, other), False)
        self.assertIs(never_more(one=other, other=one), True)

    def test_ordinary(self):
        for one, other, left, right in (
                ("p(X) -> q(X)", "p(X) -> q(X)", True, True), ("p(X) -> q(X)", "p(Y) -> q(Y)", True, True),
                ("p(X), r(X) -> q(X)", "p(X) -> q(X)", True, False), ("p(a) -> q(a)", "p(X) -> q(X)", True, False),
                ("p(a) -> q(b)", "p(X) -> q(X)", False, False), ("p(f(X)) -> q(f(X))", "p(X) -> q(X)", True, False),
                ("p(f(X)) -> q(X)", "p(X) -> q(X)", False, False), ("p(X) -> q(X)", "r(X) -> q(X)", False, False),
                ("p(X) -> q(X)", "p(X) -> r(X)", False, False), ("p(X) -> q(X)", "p(X) -> q(X), r(X)", True, False),
                ("p(X, Y), p(Y, Z) -> q(X)", "p(X, Y) -> q(X)", True, False), ("p(X, Y) -> q(X)", "p(X, Y) -> q(X, X)", False, False),
                ("p(X, Y), p(Y, X) -> q(X)", "p(X, Y), p(Y, Z), p(Z, W) -> q(X)", True, False),
                ("p(X, X) -> q(a)", "p(X, Y), p(Y, Z), p(Z, X) -> q(a)", True, False), ("p(X) -> q(a)", "p(X) -> q(X)", False, False),
                ("p(X, Y), p(Y, Z), p(Z, X) -> q(a)", "p(X, Y), p(Y, X) -> q(a)", False, False),
                ("p(f(X, Y)) -> q(X)", "p(f(X, X)) -> q(X)", False, True), ("p(f(X)) -> q(f)", "p(X) -> q(f)", True, False),
                ("p(f(X)) -> q(X)", "p(f(X, Y)) -> q(X)", False, False), ("p(X, Y) -> q(X)", "p(X) -> q(X)", False, False)):
            one, other = rules(one), rules(other)
            self.assertEqual((never_more(one, other), never_more(other, one)), (left, right), (one, other))
            self.assertEqual(alike(one, other), left and right)

    def test_one_rule_holds_what_another_does_not(self):
        one = rules("p(X, Y) -> q(X), q(Y)")
        self.assertFalse(never_more(one, rules("p(X, Y) -> q(X)")))
        self.assertTrue(never_more(one, rules("p(X, Y) -> q(X)", "p(X, Y) -> q(Y)", "r(X) -> q(X)")))
        self.assertTrue(never_more(rules("p(X) -> q(X)", "r(X), p(Y) -> q(X)"), rules("p(X) -> q(X)", "r(X) -> q(X)")))
        self.assertFalse(never_more(rules("p(X) -> q(X)", "r(X), p(Y) -> q(X)"), rules("p(X) -> q(X)", "r(X), s(X) -> q(X)")))

    def test_variables_of_the_same_names(self):
        self.assertFalse(never_more(rules("p(X, Y) -> q(X)"), rules("p(Y, X) -> q(X)")))
        self.assertTrue(never_more(rules("p(X, Y), p(Y, X) -> q(X)"), rules("p(Y, X) -> q(X)")))
        self.assertFalse(never_more(rules("p(X, Y) -> q(X, Y)"), rules("p(X, Y) -> q(Y, X)")))

    def test_empty(self):
        self.assertTrue(never_more((), ()))
        self.assertTrue(never_more((), (SMALL_RULE,)))
        self.assertFalse(never_more((SMALL_RULE,), ()))

    def test_beside_the_fillings_of_the_bodies(self):
        draw = random.Random(41)
        seen = []
        for _ in range(800):
            deep = draw.choice([1, 3])
            one, other = drawn_book(draw, 2, deep=deep, heads=2, most=4), drawn_book(draw, 3, deep=deep, heads=2, most=4)
            other = other + one[:draw.randint(0, 2)]
            self.assertEqual(unchanged(self, never_more, one, other), slow_never_more(one, other))
            seen.append(never_more(one, other))
        self.assertGreater(min(seen.count(True), seen.count(False)), 100)


class TestBesideAllSmallStores(unittest.TestCase):
    def check_books(self, draw, drawn, stores, many):
        seen = []
        for _ in range(many):
            books = [drawn(draw) for _ in range(3)]
            books += [alike_flat(draw, books[0]), books[1] + books[2]]
            fillings = [stores.fillings(book) for book in books]
            for one, left in zip(books, fillings):
                for other, right in zip(books, fillings):
                    self.assertEqual(never_more(one, other), stores.never_more(left, right), (one, other))
                    fewest = stores.fewest(left, right)
                    self.assertEqual(alike(one, other), fewest is None)
                    told = unchanged(self, parting, one, other)
                    self.assertEqual(None if told is None else len(told), fewest, (one, other))
                    self.assertEqual(told, parting(one, other))
                    if told is not None:
                        check_parts(self, told, one, other)
                    seen.append(fewest)
        return seen

    def test_flat(self):
        stores = SmallStores((("p", 2), ("r", 1)), (A, X, Y), 3)
        seen = self.check_books(random.Random(42), drawn_flat, stores, 16)
        for many in (None, 1, 2):
            self.assertGreater(seen.count(many), 10)

    def test_with_made_things(self):
        values = (A, X, Y, ("f", (A,)), ("f", (X,)), ("f", (("f", (X,)),)))
        stores = SmallStores((("p", 1), ("r", 1)), values, 2)
        seen = self.check_books(random.Random(43), drawn_deep, stores, 40)
        for many in (None, 1, 2):
            self.assertGreater(seen.count(many), 10)


def alike_flat(draw, book):
    """The book with its rules in another order, each perhaps with an atom twice."""
    told = [(body + body[:1] * draw.randint(0, 1), heads) for body, heads in book]
    draw.shuffle(told)
    return tuple(told)


def check_parts(test, store, one, other):
    """Have the test fail if this is no store, or one that the books fill alike, or one with a fact twice."""
    test.assertIsInstance(store, list)
    test.assertNotEqual(fill(one, store), fill(other, store))
    test.assertEqual(len(store), len(set(store)))


class TestAlike(unittest.TestCase):
    def test_ordinary(self):
        one = rules("p(X, Y), p(Z, Y), p(X, U) -> q(X), q(f(X))", "p(b, X) -> q(b)")
        other = rules("p(A, B) -> q(A)", "p(A, B) -> q(f(A))")
        self.assertIs(unchanged(self, alike, one, other), True)
        self.assertIs(alike(one=other, other=one), True)
        self.assertIs(unchanged(self, alike, one, other[:1]), False)
        self.assertIs(alike(other[:1], one), False)
        self.assertIs(alike((), ()), True)

    def test_ways_to_be_alike(self):
        draw = random.Random(44)
        for _ in range(300):
            book = drawn_book(draw, 3, deep=draw.choice([1, 3]), heads=3)
            other = alike_book(draw, book)
            self.assertTrue(alike(book, other))
            self.assertIsNone(parting(book, other))
            third = drawn_book(draw, 2, deep=1)
            self.assertEqual(alike(book, third), slow_alike(book, third))


class TestParting(unittest.TestCase):
    def test_the_example(self):
        one, other = rules("p(X, Y) -> q(X)"), rules("p(X, X) -> q(X)")
        for left, right in ((one, other), (other, one)):
            told = unchanged(self, parting, left, right)
            self.assertEqual(len(told), 1)
            check_parts(self, told, left, right)
            self.assertEqual(parting(one=left, other=right), told)
        self.assertIsNot(parting(one, other), parting(one, other))
        parting(one, other).append(3)
        self.assertEqual(len(parting(one, other)), 1)

    def test_alike(self):
        for book in GOOD_BOOKS:
            self.assertIsNone(parting(book, book))
        self.assertIsNone(parting((), ()))

    def test_fewest_facts(self):
        for one, other, many in (
                (["p(X), r(X) -> q(X)"], [], 2), (["p(X), p(Y), p(Z) -> q(a)"], [], 1), (["p(X, Y), p(Y, Z) -> q(X)"], [], 1),
                (["p(X, Y), p(Y, Z) -> q(X)"], ["p(X, X) -> q(X)"], 2), (["p(a), p(b), p(c), p(X) -> q(X)"], [], 3),
                (["p(X, Y), p(Y, Z), p(Z, X) -> q(a)"], ["p(X, X) -> q(a)"], 3),
                (["p(X, Y), p(Y, X) -> q(X)"], ["p(X, X) -> q(X)"], 2), (["p(a), p(b), p(c), p(d) -> q(a)"], [], 4),
                (["p(X, Y), p(Y, Z), p(Z, W), p(W, V) -> q(a)"], ["p(X, X) -> q(a)"], 2),
                (["p(X, Y), p(Y, Z), p(Z, W), p(W, V) -> q(a)"], ["p(X, X) -> q(a)", "p(X, Y), p(Y, X) -> q(a)"], 3),
                (["p(X, Y), p(Y, Z), p(Z, W), p(W, V) -> q(X, V)"], ["p(X, X) -> q(X, X)", "p(X, Y), p(Y, X) -> q(X, X)"], 2),
                (["p(X), s(X) -> q(X)", "p(X), r(Y), s(X) -> q(X)"], ["p(X), s(X) -> q(X)"], None),
                (["p(X), r(Y), s(X) -> q(X)"], ["p(X), s(X) -> q(X)"], 2)):
            one, other = rules(*one), rules(*other)
            for left, right in ((one, other), (other, one)):
                told = parting(left, right)
                self.assertEqual(None if told is None else len(told), many, (one, other))
                if told is not None:
                    check_parts(self, told, left, right)

    def test_atoms_that_can_be_one_by_made_things(self):
        one = rules("p(X, f(Y)), p(f(Z), W) -> q(X, W)")
        told = parting(one, ())
        self.assertEqual(len(told), 1)
        check_parts(self, told, one, ())
        self.assertEqual(len(parting(rules("p(X, f(X)), p(f(Y), Y) -> q(a)"), ())), 2)
        self.assertEqual(len(parting(rules("p(X, f(Y)), p(g(Z), W) -> q(a)"), rules("p(g(X), f(Y)) -> q(a)"))), 2)
        self.assertEqual(len(parting(rules("p(X, f(Y)), p(g(Z), W) -> q(X)"), rules("p(g(X), f(X)) -> q(g(X))"))), 1)

    def test_constants_of_its_own(self):
        """Constants that stand in a book would be laid where a variable alone should be."""
        names = [f"c{k}" for k in range(24)]
        other = rules(*[f"p({name}) -> q({name})" for name in names])
        told = parting(rules("p(X) -> q(X)"), other)
        check_parts(self, told, rules("p(X) -> q(X)"), other)
        deep = rules("p(f(X, g(Y))) -> q(X)")
        for text in ("p(f({0}, X)) -> q({0})", "p(f(X, g({0}))) -> q(X)", "p(f(X, g(Y))), r({0}) -> q(X)"):
            other = rules(*[text.format(name) for name in names])
            check_parts(self, parting(deep, other), deep, other)
            check_parts(self, parting(other, deep), deep, other)
        one = rules("p(X, Y, Z, W) -> q(X)")
        other = rules("p(X, X, Y, Z) -> q(X)", "p(X, Y, X, Z) -> q(X)", "p(X, Y, Z, X) -> q(X)", "p(X, Y, Y, Z) -> q(X)",
                      "p(X, Y, Z, Y) -> q(X)", "p(X, Y, Z, Z) -> q(X)", *[f"p({name}, X, Y, Z) -> q({name})" for name in names[:9]],
                      *[f"p(X, {name}, Y, Z) -> q(X)" for name in names[:9]])
        check_parts(self, parting(one, other), one, other)

    def great(self, inmost, more=()):
        """A body of two atoms; made the same, A has 7 + 8 * inmost + more names."""
        term = full_term(inmost, A)
        return (("p", ("A", "B", "C", "D")), ("p", (("f", ("B", "B", *more)), ("f", ("C", "C")), ("f", ("D", "D")), term)))

    def test_too_many_in_a_term(self):
        """Only made the same they are too great: the store is of another body, or there is none."""
        for inmost, more, good in ((24, (A,), True), (24, (A, A), False), (23, (A, A), True), (25, (), False)):
            body = self.great(inmost, more)
            self.assertEqual(7 + 8 * inmost + len(more) <= 200, good)
            book, small = ((body, (("q", (A,)),)),), rules("r(X) -> q(X)")
            for one, other, told in ((book, book, None), (book + small, book, 1), (book, book + small, 1)):
                if good and told is None:
                    self.assertIsNone(parting(one, other))
                elif good:
                    check_parts(self, parting(one, other), one, other)
                    self.assertEqual(len(parting(one, other)), 1)
                else:
                    self.assertRaises(TooMany, unchanged, self, parting, one, other)

    def test_too_many_in_a_body_as_it_is_passed(self):
        """Also in a body that the least form does not have."""
        body = self.great(25)
        needless = (body + (("r", ("E",)),), (("q", ("E",)),))
        book = rules("r(X) -> q(X)") + (needless,)
        self.assertTrue(alike(book, book[:1]))
        self.assertRaises(TooMany, parting, book, book[:1])
        self.assertRaises(TooMany, parting, book[:1], book)
        self.assertRaises(TooMany, parting, (needless,), (needless,))
        self.assertIsNone(parting(book[:1], book[:1]))

    def test_too_many_in_blocks_of_three(self):
        """No two of the atoms make a great term."""
        atoms = (("p", ("A", "B", "C", "D")), ("p", (("f", ("B",) * 4), ("f", ("C",) * 4), "E", "F")),
                 ("p", ("G", "H", ("f", ("D",) * 4), ("f", (A,) * 4))))
        for body in (atoms, atoms + (("s", ("A",)),), (("s", ("A",)),) + atoms):
            book = ((body, (("q", (A,)),)),)
            self.assertRaises(TooMany, parting, book, book)
            for at in range(len(body)):
                less = ((body[:at] + body[at + 1:], (("q", (A,)),)),)
                if body[at][0] == "p":
                    self.assertIsNone(parting(less, less))

    def test_too_many_ahead_of_none_that_can_be(self):
        body = self.great(25)[:1] + (("p", (("f", ("B", "B")), ("f", ("C", "C")), ("f", ("D", "D")), ("f", ("D",)))),)
        self.assertIsNone(parting(((body, (("q", (A,)),)),), ((body, (("q", (A,)),)),)))

    def test_each_store_has_too_great_a_value(self):
        head = (("q", ("X",)),)
        for part, more, good in ((14, (A,), True), (14, (A, A), False), (15, (), False), (13, (A, A), True)):
            great = full_term(part, A)
            body = (("p", ("X", ("f", ("X", "X", *more)))), ("p", (great, "Z")))
            self.assertEqual(2 * part + 1 + len(more) <= 30, good)
            if good:
                told = parting(((body, head),), ())
                self.assertEqual(len(told), 1)
                check_parts(self, told, ((body, head),), ())
                self.assertEqual(max(count(term) for term in told[0][1]), 2 * part + 1 + len(more))
            else:
                self.assertRaises(TooMany, unchanged, self, parting, ((body, head),), ())
                self.assertRaises(TooMany, unchanged, self, parting, (), ((body, head),))

    def test_levels_of_a_value(self):
        for deep in range(1, 7):
            body = (("p", ("X", ("f", ("X",)))), ("p", (chain(deep), "Z")))
            if deep < 6:
                told = parting(((body, (("q", ("X",)),)),), ())
                self.assertEqual((len(told), max(levels(term) for term in told[0][1])), (1, deep + 1))
            else:
                self.assertRaises(TooMany, parting, ((body, (("q", ("X",)),)),), ())

    def test_another_store_of_so_few_facts(self):
        body = (("p", ("X", ("f", ("X",)))), ("p", (chain(6), "Z")))
        great = (body, (("q", ("X",)),))
        for small in (rules("r(X) -> q(X)"), rules("p(X, X) -> q(X)"), rules("p(a, X), p(X, a) -> q(X)")):
            for one in (small + (great,), (great,) + small):
                for left, right in ((one, ()), ((), one), ((great,), small), (small, (great,))):
                    told = parting(left, right)
                    self.assertEqual(len(told), 1)
                    check_parts(self, told, left, right)
        two = rules("r(X), s(X) -> q(X)")
        self.assertRaises(TooMany, parting, two + (great,), ())
        self.assertRaises(TooMany, parting, two, (great,))
        self.assertEqual(len(parting(two + (great,), (great,))), 2)

    def test_more_facts_of_small_values(self):
        """The store of one fact is too great, those of two are not looked at."""
        body = (("p", ("X", ("f", ("X",)))), ("p", (chain(6), "Z")))
        self.assertRaises(TooMany, parting, ((body, (("q", ("X",)),)),), ())
        other = ((body[:1], (("q", ("X",)),)),)
        self.assertRaises(TooMany, parting, ((body, (("q", ("Z",)),)),), ())
        told = parting(((body, (("q", ("X",)),)),), other)
        check_parts(self, told, ((body, (("q", ("X",)),)),), other)
        self.assertEqual(facts("p(c0, f(c0))"), told)

    def test_slowest(self):
        atoms = tuple(("p", tuple(LETTERS[4 * k:4 * k + 4])) for k in range(4))
        draw = random.Random(45)

        def wide():
            return tuple((atoms, (("q", tuple(draw.choice(LETTERS) for _ in range(4))),)) for _ in range(24))

        def crossed():
            return tuple((tuple(("p", tuple(draw.choice(LETTERS[:7]) for _ in range(4))) for _ in range(4)), (("q", (A,)),))
                         for _ in range(24))
        for one, other in ((wide(), wide()), (crossed(), crossed()), (wide(), crossed())):
            check_book(one)
            for left, right in ((one, other), (other, one), (one, one)):
                for call in (never_more, alike, parting):
                    with within_seconds():
                        call(left, right)

    def test_slowest_great_terms(self):
        draw = random.Random(46)

        def great():
            def term():
                return renamed_in_turn(full_term(30), [draw.choice(["X", "Y", "Z", "W", "V"]) for _ in range(30)])
            return tuple((tuple(("p", tuple(term() for _ in range(4))) for _ in range(4)), (("q", (A,)),)) for _ in range(24))
        one, other = great(), great()
        for left, right in ((one, other), (one, one)):
            for call in (never_more, alike, parting):
                with within_seconds():
                    call(left, right)


def renamed_in_turn(term, names):
    """The term with the next of the names put for each variable."""
    if isinstance(term, str):
        return names.pop()
    return (term[0], tuple(renamed_in_turn(part, names) for part in term[1]))


class TestInvalid(unittest.TestCase):
    def test_no_books(self):
        for call in (never_more, alike, parting):
            for book in ((), (SMALL_RULE,), rules("p(a) -> q(b)")):
                check_raises(self, InvalidBook, BAD_BOOKS[::2], lambda bad, call=call, book=book: call(bad, book))
                check_raises(self, InvalidBook, BAD_BOOKS[1::2], lambda bad, call=call, book=book: call(book, bad))

    def test_ahead_of_too_many(self):
        body = TestParting.great(None, 25)
        book = ((body, (("q", (B,)),)),)
        self.assertRaises(TooMany, parting, book, book)
        check_raises(self, InvalidBook, BAD_BOOKS[::9], lambda bad: parting(bad, book))
        check_raises(self, InvalidBook, BAD_BOOKS[::9], lambda bad: parting(book, bad))


if __name__ == "__main__":
    unittest.main()
