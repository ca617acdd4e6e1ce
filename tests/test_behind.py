import random
import unittest

from fillbooks.behind import behind, had_again, no_behind
from fillbooks.books import check_book, check_store, is_fact
from fillbooks.comparing import alike, never_more
from fillbooks.errors import InvalidBook, InvalidRelation, TooMany
from fillbooks.forms import least_form
from fillbooks.joining import identity, joined
from fillbooks.texts import book_text
from helpers import (A, B, BAD_BOOKS, BAD_RELATIONS, C, SMALL_RULE, alike_book, all_stores, check_raises, drawn_book, drawn_store,
                     facts, frozen, full_term, rules, slow_fill, unchanged, within_seconds)

TOLD = (("q", 2), ("q", 1), ("r", 1))
OTHER = {"relations": TOLD, "told": (("t", 2), ("t", 1))}


def names_of(book):
    """The names of the constants of a book."""
    found, todo = set(), [term for body, heads in book for _, terms in body + heads for term in terms]
    while todo:
        term = todo.pop()
        if not isinstance(term, str):
            todo.extend(term[1])
            if not term[1]:
                found.add(term[0])
    return found


def loosened(term, fixed):
    """The value, or the fact, with a variable for each constant that need not stay."""
    name, parts = term
    if not parts:
        return term if name in fixed else name
    return (name, tuple(loosened(part, fixed) for part in parts))


def led(parts, aims, ways):
    """Whether the constants can be led so that each part comes to be one of its aims."""
    if not parts:
        return True
    for aim in aims[0]:
        found = match(parts[0], aim, ways)
        if found is not None and led(parts[1:], aims[1:], found):
            return True
    return False


def match(part, value, ways):
    """The ways, carried on, by which the part is the value; None if there are none."""
    if isinstance(part, str):
        return ways | {part: value} if ways.get(part, value) == value else None
    if part[0] != value[0] or len(part[1]) != len(value[1]):
        return None
    for inner, other in zip(part[1], value[1]):
        ways = match(inner, other, ways)
        if ways is None:
            return None
    return ways


def check_shown(test, shown, one, whole):
    """Have the test fail if this does not show that no book, behind the one, does what the whole does."""
    first, fact, second, other = shown
    test.assertIsInstance(shown, tuple)
    for store in (first, second):
        check_store(store)
        test.assertEqual(store, sorted(set(store)))
    test.assertTrue(is_fact(fact) and is_fact(other))
    test.assertIn(fact, slow_fill(whole, first))
    test.assertNotIn(other, slow_fill(whole, second))
    fixed = names_of(one) | names_of(whole)
    left, right = slow_fill(one, first), slow_fill(one, second)
    test.assertTrue(led([loosened(part, fixed) for part in [fact] + left], [[other]] + [right] * len(left), {}), shown)


def check_told(test, told, one, whole, draw, many=4):
    """Have the test fail if this book, behind the one, does not do what the whole does."""
    check_book(told)
    test.assertEqual(told, least_form(told))
    stores = [frozen(rule)[0] for rule in whole] + [drawn_store(draw, 5) for _ in range(many)]
    for store in stores:
        test.assertEqual(slow_fill(told, slow_fill(one, store)), slow_fill(whole, store))


class TestBehind(unittest.TestCase):
    def check(self, one, whole, wanted):
        """The texts of the book that is told; None if there is none."""
        one, whole = rules(*one), rules(*whole)
        told = unchanged(self, behind, one, whole)
        shown = unchanged(self, no_behind, one, whole)
        self.assertEqual(behind(whole=whole, one=one), told)
        self.assertEqual(no_behind(whole=whole, one=one), shown)
        if wanted is None:
            self.assertIsNone(told)
            check_shown(self, shown, one, whole)
        else:
            self.assertEqual(book_text(told).split("\n")[:-1], wanted)
            self.assertIsNone(shown)
            check_told(self, told, one, whole, random.Random(1))
            self.assertTrue(alike(joined(one, told), whole))

    def test_ordinary(self):
        self.check(["p(X, Y) -> q(Y, X)"], ["p(X, Y) -> ans(X)"], ["q(A, B) -> ans(B)"])
        self.check(["p(X, Y) -> q(X), r(Y)"], ["p(X, Y), p(Z, W) -> ans(X, W)"], ["q(A), r(B) -> ans(A, B)"])
        self.check(["p(X) -> q(X, f(X))"], ["p(X) -> ans(f(X))"], ["q(A, f(A)) -> ans(f(A))"])
        self.check(["p(X) -> q(f(X))"], ["p(X) -> ans(X)", "p(a) -> ans(b)"], ["q(f(A)) -> ans(A)", "q(f(a)) -> ans(b)"])
        self.check(["p(X) -> q(X)", "r(X) -> q(g(X))"], ["r(X) -> ans(X)"], None)
        self.check(["p(X) -> q(h(X))", "r(X) -> q(g(X))"], ["r(X) -> ans(X)"], ["q(g(A)) -> ans(A)"])
        self.check(["p(X) -> q(a, X)", "r(X) -> q(b, X)"], ["r(X) -> ans(X)"], ["q(b, A) -> ans(A)"])

    def test_what_asks_most(self):
        """All that is told of a body is asked for, also what is not needed."""
        self.check(["p(X) -> q(X), r(X), s(X, X)"], ["p(X) -> ans(X)"], ["q(A), r(A), s(A, A) -> ans(A)"])
        self.check(["p(X, Y) -> q(X, Y), q(Y, X)"], ["p(X, X) -> ans(X)"], ["q(A, A) -> ans(A)"])
        self.check(["p(X, Y) -> q(X, Y)", "p(X, X) -> r(X)"], ["p(X, X) -> ans(X)"], ["q(A, A), r(A) -> ans(A)"])

    def test_empty_books(self):
        self.check([], [], [])
        self.check(["p(X) -> q(X)"], [], [])
        self.check([], ["p(X) -> q(X)"], None)
        self.check([], ["p(a) -> q(a)"], None)

    def test_nothing_is_told_of_a_body(self):
        self.check(["p(X) -> q(X)"], ["r(X) -> ans(X)"], None)
        self.check(["p(X) -> q(X)"], ["r(X) -> ans(a)"], None)
        self.check(["p(X) -> q(X)"], ["p(X) -> ans(X)", "r(X, Y), r(Y, Z) -> ans(f(X, Z))"], None)
        self.check(["p(a, X) -> q(X)"], ["p(X, Y) -> ans(Y)"], None)
        self.check(["p(f(X)) -> q(X)"], ["p(X) -> ans(X)"], None)

    def test_a_variable_of_the_head_is_lost(self):
        self.check(["p(X, Y) -> q(X)"], ["p(X, Y) -> ans(Y)"], None)
        self.check(["p(X, Y) -> q(X)"], ["p(X, Y) -> ans(f(X, g(Y)), X)"], None)
        self.check(["p(X, Y) -> q(X, c0), q(X, c1)"], ["p(X, Y) -> ans(c0, Y)"], None)
        self.check(["p(X, Y) -> q(X)"], ["p(X, Y) -> ans(X)", "p(X, Y), p(Y, Z) -> ans(Y, Z)"], None)

    def test_rules_that_tell_too_much(self):
        self.check(["p(X) -> q(X)", "r(X) -> q(X)"], ["p(X) -> ans(X)"], None)
        self.check(["p(X, Y) -> q(X), r(Y)"], ["p(X, Y) -> ans(X, Y)"], None)
        self.check(["p(X, Y) -> q(X, Y), q(Y, X)"], ["p(X, Y) -> ans(X, Y)"], None)
        self.check(["p(X, Y) -> q(X), q(Y)"], ["p(X, Y) -> ans(X)"], None)
        self.check(["p(X) -> q(X)", "p(a) -> r(a)", "s(X) -> r(X)"], ["p(a) -> ans(a)"], ["q(a), r(a) -> ans(a)"])
        self.check(["p(a) -> r(a)", "s(X) -> r(X)"], ["p(a) -> ans(a)"], None)
        self.check(["p(X) -> q(X)"], ["p(X), r(X) -> ans(X)"], None)
        self.check(["p(X) -> q(a)"], ["p(b) -> ans(b)"], None)

    def test_names_that_look_like_constants_of_its_own(self):
        names = [f"c{k}" for k in range(12)]
        one = [f"p({name}) -> q({name}, {name})" for name in names] + ["p(X) -> q(X, d)"]
        self.check(one, ["p(X) -> ans(X)"], ["q(A, d) -> ans(A)"])
        self.check(one, [f"p({name}) -> ans(f({name}), {name})" for name in names],
                   sorted(f"q({name}, {name}), q({name}, d) -> ans(f({name}), {name})" for name in names))
        self.check(["p(X, Y) -> q(X)"] + [f"p({name}, X) -> r(X)" for name in names], ["p(X, Y) -> ans(Y)"], None)

    def test_wholes_that_were_joined(self):
        draw = random.Random(111)
        some = refused = 0
        for _ in range(400):
            deep = draw.choice([1, 2, 3])
            one = drawn_book(draw, 4, deep=deep, heads=2, most=2, told=TOLD)
            other = drawn_book(draw, 2, deep=deep, heads=2, most=2, **OTHER)
            try:
                whole = joined(one, other)
                told = unchanged(self, behind, one, whole)
            except TooMany:
                refused += 1
                continue
            self.assertIsNotNone(told)
            self.assertIsNone(unchanged(self, no_behind, one, whole))
            self.assertTrue(never_more(told, other))
            check_told(self, told, one, whole, draw)
            self.assertEqual(joined(one, told), whole)
            some += len(whole) > 0
        self.assertGreater(some, 120)
        self.assertLess(refused, 120)

    def test_drawn_wholes(self):
        draw = random.Random(112)
        seen = []
        for _ in range(900):
            deep = draw.choice([1, 2, 2, 3])
            one = drawn_book(draw, 3, deep=deep, heads=2, most=2, told=TOLD)
            whole = drawn_book(draw, 2, deep=deep, most=2, told=(("t", 2), ("t", 1)))
            try:
                told = unchanged(self, behind, one, whole)
            except TooMany:
                self.assertRaises(TooMany, unchanged, self, no_behind, one, whole)
                seen.append("refused")
                continue
            shown = unchanged(self, no_behind, one, whole)
            self.assertEqual(told is None, shown is not None)
            if told is None:
                check_shown(self, shown, one, whole)
                seen.append("lost" if shown[0] == shown[2] or not shown[2] else "more")
            else:
                check_told(self, told, one, whole, draw)
                seen.append("none" if whole == () else "told")
        for word in ("lost", "more", "told"):
            self.assertGreater(seen.count(word), 20)

    def test_it_hangs_on_what_the_books_fill_alone(self):
        draw = random.Random(113)
        for _ in range(150):
            one = drawn_book(draw, 3, heads=2, most=2, told=TOLD)
            whole = drawn_book(draw, 2, most=2, told=(("t", 2), ("t", 1)))
            same, like = alike_book(draw, one), alike_book(draw, whole)
            try:
                told = behind(one, whole)
            except TooMany:
                self.assertRaises(TooMany, behind, same, like)
                continue
            self.assertEqual(behind(same, like), told)

    def test_no_book_where_none_is_told(self):
        """Beside all books of one rule over small atoms: if one does it, one is told."""
        draw = random.Random(114)
        stores = all_stores((("p", 2),), (A, B, C), 2)
        some = 0
        for _ in range(80):
            one = drawn_book(draw, 2, heads=2, most=2, relations=(("p", 2),), told=(("q", 2), ("q", 1)))
            whole = drawn_book(draw, 1, most=2, relations=(("p", 2),), told=(("t", 1),)) or rules("p(X, Y) -> t(X)")
            if behind(one, whole) is None:
                for text in ("q(X) -> t(X)", "q(X, Y) -> t(X)", "q(X, Y) -> t(Y)", "q(X, X) -> t(X)", "q(X, Y), q(Y) -> t(Y)", "q(X, Y), q(X) -> t(X)",
                             "q(X, Y) -> t(a)", "q(X) -> t(a)", "q(a, X) -> t(X)", "q(a) -> t(a)", "q(X, Y), q(Y, Z) -> t(X)"):
                    fillings = [slow_fill(rules(text), slow_fill(one, store)) == slow_fill(whole, store) for store in stores]
                    self.assertFalse(all(fillings) and alike(joined(one, rules(text)), whole))
                    some += 1
        self.assertGreater(some, 50)

    def test_new_lists(self):
        one, whole = rules("p(X, Y) -> q(X)"), rules("p(X, Y), p(Z, X) -> ans(Y)")
        first, _, second, _ = no_behind(one, whole)
        self.assertIsNot(first, second)
        first.append(3)
        second.clear()
        check_shown(self, no_behind(one, whole), one, whole)


class TestBounds(unittest.TestCase):
    def check_too_many(self, one, whole):
        for call in (behind, no_behind):
            with within_seconds():
                self.assertRaises(TooMany, unchanged, self, call, rules(*one), rules(*whole))

    def check_none(self, one, whole):
        one, whole = rules(*one), rules(*whole)
        self.assertIsNone(unchanged(self, behind, one, whole))
        check_shown(self, no_behind(one, whole), one, whole)

    def check_told(self, one, whole, wanted):
        self.assertEqual(book_text(behind(rules(*one), rules(*whole))).split("\n")[:-1], wanted)
        self.assertIsNone(no_behind(rules(*one), rules(*whole)))

    six = ["p(X, Y, Z, W) -> a(X, Y), a(X, Z), a(X, W)", "p(X, Y, Z, W) -> b(X, Y), b(X, Z), b(X, W)"]

    def test_six_and_seven_facts(self):
        ask = ["p(X, Y, Z, W) -> ans(X)"]
        self.check_told(self.six, ask, ["a(A, B), b(A, B) -> ans(A)"])
        self.check_told(self.six + ["p(X, Y, Z, W) -> b(X, W), a(X, Y)"], ask, ["a(A, B), b(A, B) -> ans(A)"])
        self.check_too_many(self.six + ["p(X, Y, Z, W) -> c(X)"], ask)
        self.check_too_many(self.six + ["p(X, Y, Z, W) -> a(X, X)"], ask)

    def test_seven_facts_ahead_of_none(self):
        """Of one rule nothing is told, or not its head; of another one too much."""
        seven = self.six + ["p(X, Y, Z, W) -> c(X)"]
        for lost in ("r(X) -> ans(X)", "r(X) -> zz(X)", "p(X, X, X, X) -> ans(X)"):
            self.check_too_many(seven, [lost, "p(X, Y, Z, W) -> ans(X)"])
        self.check_none(self.six, ["p(X, Y, Z, W) -> ans(X)", "r(X) -> ans(X)"])
        self.check_too_many(["p(X, Y, Z, W) -> a(X), b(X), c(X)", "p(X, Y, Z, W) -> d(X), e(X), f(X)", "p(X, Y, Z, W) -> g(X)"],
                            ["p(X, Y, Z, W) -> ans(Y)"])

    def test_seven_facts_of_a_body_of_the_least_form(self):
        """Of a needless atom nothing is told that counts."""
        one = ["p(X, Y) -> a(X, Y), b(X, Y), c(X, Y)"]
        self.check_told(one, ["p(X, Y), p(X, Z), p(X, W) -> ans(X)"], ["a(A, B), b(A, B), c(A, B) -> ans(A)"])
        self.check_too_many(one, ["p(X, Y), p(Y, Z), p(Z, X) -> ans(X)"])
        self.check_too_many(one, ["p(X, Y), p(Y, Z), p(Z, X) -> ans(X)", "r(X) -> ans(X)"])

    def test_what_comes_is_no_book(self):
        """Five unlike atoms that all are needed, or terms that are too great."""
        four = ["p(X) -> a(X), b(X), c(X)", "p(X) -> d(X)"]
        self.check_told(four, ["p(X) -> ans(X)"], ["a(A), b(A), c(A), d(A) -> ans(A)"])
        self.check_too_many(four + ["p(X) -> e(X)"], ["p(X) -> ans(X)"])
        self.check_none(four + ["p(X) -> e(X)"], ["p(X) -> ans(X)", "r(X) -> ans(a)"])
        self.check_none(four + ["p(X, Y) -> e(X)"], ["p(X), p(X, Y) -> ans(Y)"])
        deep = ["p(X) -> q(f(f(f(X))))"]
        self.check_told(deep, ["p(g(g(X))) -> ans(X)"], ["q(f(f(f(g(g(A)))))) -> ans(A)"])
        self.check_too_many(deep, ["p(g(g(g(X)))) -> ans(X)"])
        self.check_none(deep, ["p(g(g(g(X)))) -> ans(X)", "r(X) -> ans(X)"])

    def test_too_great_rules_that_other_ones_hold(self):
        """The least form is looked at: a rule of five atoms that another rule holds does no harm."""
        one = ["p(X) -> a(X), b(X), c(X)", "p(X) -> d(X)", "p(X), s(X) -> e(X)"]
        self.check_told(one, ["p(X) -> ans(X)", "p(X), s(X) -> ans(X)"], ["a(A), b(A), c(A), d(A) -> ans(A)"])
        self.check_too_many(one, ["p(X) -> ans(X)", "p(X), s(X) -> yes(X)"])

    def test_choices_of_joined(self):
        """With k rules beside the first there are (k + 1) * (k + 1) choices; no two of these rules can be chosen together."""
        def one(many):
            return ["w(X, Y) -> s(X, Y), u(X, Y)"] + [f"v{k}(X) -> s(X, c{k}), u(X, f(c{k}))" for k in range(many)]
        for many in (0, 3, 6):
            self.check_told(one(many), ["w(X, Y) -> ans(X)"], ["s(A, B), u(A, B) -> ans(A)"])
        for many in (7, 11):
            self.check_too_many(one(many), ["w(X, Y) -> ans(X)"])
            self.check_none(one(many), ["w(X, Y) -> ans(X)", "r(X) -> ans(a)"])
            self.check_none(one(many), ["w(X, Y) -> ans(X)", "w(X, Y), r(Z) -> ans(Z)"])

    def test_atoms_of_joined(self):
        """Each of the atoms is told of four unlike ones."""
        one = ["a(X, Y), b(X, Y), c(X), d(Y) -> q(X)", "e(X, Y), f(X, Y), g(X), h(Y) -> r(X)"]
        both = one + ["s(X) -> q(X), r(X)"]
        self.check_too_many(both, ["s(X) -> ans(X)"])
        self.check_none(both, ["s(X) -> ans(X)", "zz(X) -> ans(X)"])
        self.check_none(["a(X, Y), b(X, Y) -> q(X)", "e(X, Y), f(X, Y) -> r(X)", "s(X) -> q(X), r(X)"], ["s(X) -> ans(X)"])
        self.check_too_many(["a(X, Y), b(X, Y) -> q(X)", "e(X, Y), f(X, Y), g(X) -> r(X)", "s(X) -> q(X), r(X)"], ["s(X) -> ans(X)"])

    def test_words_of_joined(self):
        """Two rules of the one tell of both kinds; where they meet, a variable gets 16 times what the other has, and 5 more."""
        great = ("g", (("g", ("X",) * 4),) * 4)
        whole = rules("p(X) -> ans(a)", "s(X, Y) -> ans(a)")
        for many, good in ((11, True), (12, True), (13, False), (29, False)):
            one = (((("p", ("X",)),), (("q", ("X", great)),)), ((("s", ("Y", "Z")),), (("q", (full_term(many, "Y"), "Z")),)))
            self.assertEqual(16 * many + 5 <= 200, good)
            if good:
                self.assertEqual(len(behind(one, whole)), 2)
                self.assertIsNone(no_behind(one, whole))
            else:
                self.assertRaises(TooMany, unchanged, self, behind, one, whole)
                self.assertRaises(TooMany, no_behind, one, whole)
            lost = whole + rules("r(X) -> ans(X)")
            self.assertIsNone(behind(one, lost))
            check_shown(self, no_behind(one, lost), one, lost)


class TestHadAgain(unittest.TestCase):
    def check(self, book, relation, wanted):
        told = unchanged(self, had_again, rules(*book), relation)
        self.assertEqual(told if told is None else book_text(told).split("\n")[:-1], wanted)
        self.assertEqual(had_again(relation=relation, book=rules(*book)), told)
        self.assertEqual(behind(rules(*book), identity([relation])), told)

    def test_the_example(self):
        self.check(["q(X) -> p(f(X))"], ("q", 1), ["p(f(A)) -> q(A)"])

    def test_had_again(self):
        self.check(["p(X, Y) -> q(Y, X)"], ("p", 2), ["q(A, B) -> p(B, A)"])
        self.check(["p(X, Y, Z, W) -> q(f(X, Y), f(Z, W))"], ("p", 4), ["q(f(A, B), f(C, D)) -> p(A, B, C, D)"])
        self.check(["p(X, Y, Z) -> q(X, n(X, Y, Z)), r(n(X, Y, Z), Y), s(n(X, Y, Z), Z)"], ("p", 3),
                   ["q(A, n(A, B, C)), r(n(A, B, C), B), s(n(A, B, C), C) -> p(A, B, C)"])
        self.check(["p(X) -> p(X)", "r(X) -> r(X)"], ("r", 1), ["r(A) -> r(A)"])
        self.check(["p(X) -> t(X, a)", "r(X) -> t(X, b)"], ("r", 1), ["t(A, b) -> r(A)"])

    def test_not_had_again(self):
        self.check(["p(X, Y) -> q(X)"], ("p", 2), None)
        self.check(["p(X, Y) -> q(X), r(Y)"], ("p", 2), None)
        self.check(["p(X) -> t(X)", "r(X) -> t(X)"], ("r", 1), None)
        self.check(["p(X), r(X) -> t(X)"], ("r", 1), None)
        self.check(["p(X, X) -> t(X)"], ("p", 2), None)
        self.check(["p(X, Y, Z, W) -> q(X, Y, Z)"], ("p", 4), None)

    def test_relations_that_the_book_does_not_name(self):
        for relation in (("z", 1), ("p", 2), ("p", 4), ("q", 1)):
            self.check(["p(X) -> q(X)"], relation, None)
            self.check([], relation, None)

    def test_numbers_of_terms(self):
        for many in range(1, 5):
            names = ", ".join("XYZW"[:many])
            letters = ", ".join("ABCD"[:many])
            self.check([f"p({names}) -> q({names})"], ("p", many), [f"q({letters}) -> p({letters})"])
            self.check([f"p({names}, X) -> q({names}, X)"] if many < 4 else ["p(X) -> q(X)"], ("p", many), None)

    def test_what_is_had_again(self):
        draw = random.Random(115)
        seen = []
        for _ in range(200):
            book = drawn_book(draw, 4, deep=draw.choice([1, 2]), heads=3, most=1, told=TOLD)
            relation = draw.choice([("p", 2), ("p", 1), ("r", 1)])
            try:
                told = unchanged(self, had_again, book, relation)
            except TooMany:
                continue
            if told is not None:
                for _ in range(5):
                    store = drawn_store(draw, 6)
                    wanted = sorted({fact for fact in store if (fact[0], len(fact[1])) == relation})
                    self.assertEqual(slow_fill(told, slow_fill(book, store)), wanted)
            seen.append(told is None)
        self.assertGreater(min(seen.count(True), seen.count(False)), 5)

    def test_too_many(self):
        self.assertRaises(TooMany, had_again, rules("p(X) -> a(X), b(X), c(X)", "p(X) -> d(X), e(X)"), ("p", 1))
        self.assertRaises(TooMany, had_again, rules("p(X) -> a(X), b(X), c(X)", "p(X) -> d(X), e(X), f(X)", "p(X) -> g(X)"), ("p", 1))


class TestInvalid(unittest.TestCase):
    def test_no_books(self):
        for call in (behind, no_behind):
            for book in ((), (SMALL_RULE,), rules("q(a) -> p(f(b))")):
                check_raises(self, InvalidBook, BAD_BOOKS[::2], lambda bad, call=call, book=book: call(bad, book))
                check_raises(self, InvalidBook, BAD_BOOKS[1::2], lambda bad, call=call, book=book: call(book, bad))

    def test_no_relation(self):
        for book in ((), (SMALL_RULE,), rules("p(X) -> a(X), b(X), c(X)", "p(X) -> d(X), e(X), f(X)", "p(X) -> g(X)")):
            check_raises(self, InvalidRelation, BAD_RELATIONS, lambda bad, book=book: had_again(book, bad))
        for relation in (("p", 1), None, ("p", 5)):
            check_raises(self, InvalidBook, BAD_BOOKS[::2], lambda bad, relation=relation: had_again(bad, relation))


class TestSlowest(unittest.TestCase):
    def test_many_rules(self):
        one = rules(*[f"p{k}(X, Y, Z, W) -> q(X, Y, c{k}), r(Z, W, c{k}), s(X, Z, c{k})" for k in range(8)])
        whole = rules(*[f"p{k}(X, Y, Z, W), p{k}(W, Y, Z, V) -> t(X, c{k}), u(V, W), v(f(X, V))" for k in range(8)])
        for call in (behind, no_behind):
            with within_seconds():
                try:
                    call(one, whole)
                except TooMany:
                    pass

    def test_bodies_of_which_much_is_told(self):
        one = rules(*[f"p(X, Y, Z, W), p(Y, Z, W, V), p(A, B, C, D), p(E, F, G, H) -> q(X, A, E, c{k})" for k in range(24)])
        whole = rules("p(A, B, C, D), p(B, C, D, E), p(C, D, E, F), p(D, E, F, G) -> ans(A)")
        for call in (behind, no_behind):
            with within_seconds():
                self.assertRaises(TooMany, call, one, whole)

    def test_six_atoms_each(self):
        """Six facts of one relation are told of each body: many ways to lay one rule into another."""
        one = rules("e(X, Y), e(Y, Z) -> q(X, Z)", "e(X, Y) -> q(X, Y)")
        deep = rules(*[f"e(A, B), e(B, C), e(C, D) -> t{k}(A)" for k in range(24)])
        flat = rules(*[f"e(A, B), e(B, C) -> t{k}(A)" for k in range(24)])
        for call in (behind, no_behind):
            with within_seconds():
                self.assertRaises(TooMany, call, one, deep)
            with within_seconds():
                self.assertRaises(TooMany, call, one, flat)
        with within_seconds():
            self.assertEqual(len(behind(one, flat[:7])), 7)


if __name__ == "__main__":
    unittest.main()
