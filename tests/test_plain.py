import itertools
import random
import unittest

from fillbooks.books import check_book
from fillbooks.errors import InvalidBook, NotPlain
from fillbooks.filling import fill
from fillbooks.joining import fill_row
from fillbooks.plain import is_plain, lead_both_ways, leads_into, no_lead
from helpers import (A, B, BAD_BOOKS, SMALL_RULE, all_stores, check_raises, drawn_book, facts, rules, slow_fill, unchanged,
                     within_seconds)

X, Y = ("x", ()), ("y", ())
LETTERS = "ABCDEFGHIJKLMNOP"

PLAIN = [
    [], ["p(X) -> q(X)"], ["p(X) -> q(X, f(X))"], ["p(a, X) -> q(b, X)"], ["p(a) -> q(b)"], ["p(X) -> q(f(X)), q(f(X), f(X)), r(g(X))"],
    ["p(X, Y), r(Z) -> q(f(Z, X, Y)), s(f(Z, X, Y))"], ["p(X, Y) -> q(f(X, Y)), q(g(Y, X))"], ["p(X) -> q(f(X))", "p(X) -> q(g(X))"],
    ["p(X) -> q(f(X))", "p(f) -> q(f)"], ["p(X) -> q(f(X)), f(X)"], ["p(X, Y, Z, W) -> q(f(W, X, Z, Y))"],
    ["p(X, Y, Z, W), p(V, V, V, V) -> q(X)"], ["p(X) -> q(X)"] * 24, ["p(X) -> q(f(X), f)"], ["p(X), p(X) -> q(f(X))"],
    ["p(X) -> q(f(X)), q(f(X)), q(f(X))"],
]
NOT_PLAIN = [
    ["p(f(X)) -> q(X)"], ["p(f(a)) -> q(a)"], ["p(X, g(f(X))) -> q(X)"], ["p(X), p(f(X)) -> q(X)"], ["p(X) -> q(f(a))"],
    ["p(X) -> q(f(X, a))"], ["p(X) -> q(f(X, X))"], ["p(X) -> q(f(g(X)))"], ["p(X, Y) -> q(f(X))"], ["p(X, Y) -> q(f(X, Y, X))"],
    ["p(X, Y) -> q(f(X, Y)), q(f(Y, X))"], ["p(X, Y) -> q(f(X, Y), f(Y, X))"], ["p(X) -> q(f(X))", "r(X) -> q(f(X))"],
    ["p(X) -> q(f(X))", "p(X) -> q(f(X))"], ["p(X) -> q(f(X))", "p(X, Y) -> q(f(X, Y))"], ["p(X) -> q(X, g(f(X)))"],
    ["p(X, Y), r(Z) -> q(f(X, Y))"], ["p(X) -> q(X)", "p(X) -> q(f(X))", "p(X) -> r(X)", "p(X, Y) -> s(f(Y, X))"],
    ["p(X, Y) -> q(f(X, Y)), r(g(X))"], ["p(X), r(Y) -> q(f(Y))"], ["p(a) -> q(f(b))"], ["p(X) -> q(f(X)), q(f(a))"],
    ["p(a) -> q(g(f(a)))"], ["p(X) -> q(f(X)), r(f(f(X)))"],
]


def slow_leads(left, right):
    """Whether a map of values, by which constants stay, leads the facts of the one filling to facts of the other."""
    made = sorted({value for _, values in left for value in values if value[1]})
    aims = sorted({value for _, values in right for value in values}) or [A]
    return lead_on([fact for fact in left], made, aims, {}, set(right))


def lead_on(left, made, aims, led, right):
    """Whether the map can be carried on for the things that are made."""
    for relation, values in left:
        if all(not value[1] or value in led for value in values):
            if (relation, tuple(led.get(value, value) for value in values)) not in right:
                return False
    if not made:
        return True
    return any(lead_on(left, made[1:], aims, led | {made[0]: aim}, right) for aim in aims)


def drawn_plain(draw, names):
    """A plain book of few variables, whose made things bear names of their own."""
    book, names = [], list(names)
    for _ in range(draw.randint(1, 2)):
        body = tuple(draw.choice([("p", (draw.choice("XY"), draw.choice(["X", "Y", A]))), ("r", (draw.choice("XY"),))])
                     for _ in range(draw.randint(1, 2)))
        known = sorted({name for _, terms in body for name in terms if isinstance(name, str)})
        made = [(names.pop(), tuple(draw.sample(known, len(known)))) for _ in range(draw.randint(0, 2))]
        parts = known + made + made + [A]
        heads = tuple(draw.choice([("q", (draw.choice(parts), draw.choice(parts))), ("s", (draw.choice(parts),))])
                      for _ in range(draw.randint(1, 3)))
        book.append((body, heads))
    return tuple(book)


def drawn_other(draw):
    """A book that is plain, or one that is not."""
    told = (("q", 2), ("s", 1))
    if draw.random() < 0.5:
        return drawn_plain(draw, ["f", "h", "k", "m"])
    return drawn_book(draw, 3, variables="XY", relations=(("p", 2), ("r", 1)), told=told, deep=draw.choice([1, 3]), heads=3, most=2)


def made_things(book):
    return [term for body, heads in book for _, terms in body + heads for term in terms if not isinstance(term, str) and term[1]]


def check_shown(test, shown, one, other):
    """Have the test fail if the question and the store do not show that the one does not lead into the other."""
    question, store = shown
    check_book(question)
    test.assertGreaterEqual(len(question), 1)
    test.assertEqual(len({(head[0], len(head[1])) for _, heads in question for head in heads}), 1)
    test.assertEqual(made_things(question), [])
    test.assertIsInstance(store, list)
    test.assertTrue(all(value[1] == () for _, values in store for value in values))
    left, right = slow_fill(question, slow_fill(one, store)), slow_fill(question, slow_fill(other, store))
    sure = [fact for fact in left if all(value[1] == () for value in fact[1])]
    test.assertNotEqual([fact for fact in sure if fact not in right], [])


class TestIsPlain(unittest.TestCase):
    def test_plain_books(self):
        for texts in PLAIN:
            with self.subTest(texts=texts):
                self.assertIs(unchanged(self, is_plain, rules(*texts)), True)
                self.assertIs(is_plain(book=rules(*texts)), True)

    def test_others(self):
        for texts in NOT_PLAIN:
            with self.subTest(texts=texts):
                self.assertIs(unchanged(self, is_plain, rules(*texts)), False)
                self.assertIs(is_plain(rules("p(X) -> q(new(X))", *texts)), False)
                self.assertIs(is_plain(rules(*texts, "p(X) -> q(new(X))")), False)

    def test_names_of_several_rules(self):
        for count in range(2, 24):
            texts = [f"p(X) -> q(f{k}(X)), q(g{k}(X))" for k in range(min(count, 12))]
            self.assertTrue(is_plain(rules(*texts)))
            for name in ("f0", "g0", f"g{len(texts) - 1}"):
                self.assertEqual(is_plain(rules(*texts[:11], f"r(X) -> q({name}(X))")), name == "g11")

    def test_no_book(self):
        check_raises(self, InvalidBook, BAD_BOOKS, is_plain)


class TestLeadsInto(unittest.TestCase):
    def check(self, one, other, left, right=None):
        """One leads into the other; and the other way, where this is told."""
        one, other = rules(*one), rules(*other)
        self.check_one_way(one, other, left)
        if right is not None:
            self.check_one_way(other, one, right)
            self.assertIs(unchanged(self, lead_both_ways, one, other), left and right)
            self.assertIs(lead_both_ways(other, one), left and right)
            self.assertIs(lead_both_ways(one=one, other=other), left and right)

    def check_one_way(self, one, other, wanted):
        self.assertIs(unchanged(self, leads_into, one, other), wanted)
        self.assertIs(leads_into(one=one, other=other), wanted)
        shown = unchanged(self, no_lead, one, other)
        self.assertEqual(shown, no_lead(one=one, other=other))
        if wanted:
            self.assertIsNone(shown)
        else:
            check_shown(self, shown, one, other)

    def test_the_example(self):
        self.check(["p(X) -> q(X, f(X))"], ["p(X) -> q(X, g(X)), q(X, h(X))"], True, True)
        self.assertTrue(is_plain(rules("p(X) -> q(X, g(X)), q(X, h(X))")))

    def test_without_made_things(self):
        self.check(["p(X) -> q(X)"], ["p(X) -> q(X)"], True, True)
        self.check(["p(X), r(X) -> q(X)"], ["p(X) -> q(X)"], True, False)
        self.check(["p(X) -> q(a)"], ["p(X) -> q(X)"], False, False)
        self.check([], ["p(X) -> q(X)"], True, False)
        self.check([], [], True, True)
        self.check(["p(X) -> q(X), s(X)"], ["p(X) -> q(X)", "p(X) -> s(X)"], True, True)
        self.check(["p(a) -> q(a)"], ["p(X) -> q(X)"], True, False)

    def test_made_things_are_more_than_nothing(self):
        self.check(["p(X) -> q(X, f(X))"], ["p(X) -> q(X, X)"], True, False)
        self.check(["p(X) -> q(X, f(X))"], ["p(X) -> q(X, a)"], True, False)
        self.check(["p(X) -> q(X, f(X))"], ["p(X) -> q(f(X), X)"], False, False)
        self.check(["p(X) -> q(f(X))"], ["p(X) -> q(g(X))"], True, True)
        self.check(["p(X) -> q(f(X))"], ["p(a) -> q(b)"], False, False)

    def test_all_heads_by_one_map(self):
        self.check(["p(X) -> q(X, f(X)), s(f(X))"], ["p(X) -> q(X, g(X)), s(h(X))"], False, True)
        self.check(["p(X) -> q(X, f(X)), s(f(X))"], ["p(X) -> q(X, g(X)), s(h(X))", "p(X) -> q(X, k(X)), s(k(X))"], True, True)
        self.check(["p(X, Y) -> q(X, f(X, Y)), q(f(X, Y), Y)"], ["p(X, Y) -> q(X, g(X, Y)), q(h(X, Y), Y)"], False, True)
        self.check(["p(X) -> q(f(X), g(X)), q(g(X), f(X))"], ["p(X) -> q(h(X), h(X))"], True, False)
        self.check(["p(X) -> q(f(X), g(X)), q(g(X), h(X)), q(h(X), f(X))"], ["p(X) -> q(k(X), l(X)), q(l(X), k(X))"], False, False)
        self.check(["p(X) -> q(f(X), g(X)), q(g(X), h(X)), q(f(X), h(X))"], ["p(X) -> q(k(X), l(X))"], False, True)
        self.check(["p(X) -> q(f(X), g(X)), q(g(X), h(X)), q(h(X), k(X))"], ["p(X) -> q(m(X), l(X)), q(l(X), m(X))"], True, False)
        self.check(["p(X) -> q(X, f(X)), q(f(X), X), s(f(X))"], ["p(X) -> q(X, g(X)), q(g(X), X)", "p(X) -> q(X, h(X)), s(h(X))"], False, True)

    def test_heads_that_hang_together_in_a_chain(self):
        chain = ["p(X) -> q(X, f(X)), s(f(X), g(X)), t(g(X))"]
        self.check(chain, ["p(X) -> q(X, h(X)), s(h(X), k(X)), t(l(X))"], False, True)
        self.check(chain, ["p(X) -> q(X, h(X)), s(h(X), k(X))"], False, True)
        self.check(chain, ["p(X) -> q(X, h(X)), s(k(X), l(X)), t(l(X))"], False, True)
        self.check(chain, ["p(X) -> q(X, a), s(a, b), t(b)"], True, False)
        self.check(chain, ["p(X) -> q(X, a), s(a, b), t(c)", "p(X) -> s(a, d), s(a, c), t(e)"], True, False)
        self.check(chain, ["p(X) -> q(X, a), s(a, b), t(c)", "p(X) -> s(a, d), s(d, c), t(e)"], False, False)

    def test_each_rule_has_things_of_its_own(self):
        self.check(["p(X) -> q(X, f(X))", "p(X) -> s(X, g(X))"], ["p(X) -> q(X, h(X)), s(X, h(X))"], True, False)
        self.check(["p(X) -> q(X, f(X)), s(X, f(X))"], ["p(X) -> q(X, g(X))", "p(X) -> s(X, h(X))"], False, True)
        self.check(["p(X, Y) -> q(X, f(X, Y))"], ["p(X, Y) -> q(X, g(X, Y))", "p(X, X) -> q(X, h(X))"], True, True)

    def test_into_books_that_are_not_plain(self):
        self.check(["p(X) -> q(X, f(X))"], ["p(X) -> q(X, g(g(X)))"], True)
        self.check(["p(X) -> q(X, f(X)), s(f(X))"], ["p(X) -> q(X, f(a)), s(f(a))"], True)
        self.check(["p(X) -> q(X, f(X)), s(f(X))"], ["p(X) -> q(X, f(a)), s(f(X))"], False)
        self.check(["p(X) -> q(X)"], ["p(f(X)) -> q(f(X))"], False)
        self.check(["p(X), r(Y) -> q(f(X, Y))"], ["p(X) -> q(f(X))", "r(X) -> q(f(X))"], True)
        self.check(["p(X, Y) -> q(f(X, Y), g(X, Y))"], ["p(X, Y) -> q(f(X), f(X))"], True)

    def test_constants_stay(self):
        self.check(["p(X) -> q(X, b)"], ["p(X) -> q(X, f(X))"], False, True)
        self.check(["p(X) -> q(a, f(X))"], ["p(X) -> q(b, f(X))"], False, False)
        self.check(["p(X) -> q(f(X), a)"], ["p(X) -> q(f(X), f)"], False, False)
        self.check(["p(X) -> q(f(X), f)"], ["p(X) -> q(f, f)"], True, False)

    def test_names_that_look_like_constants_of_its_own(self):
        names = [f"c{k}" for k in range(20)]
        self.check(["p(X) -> q(X, f(X))"], [f"p({name}) -> q({name}, {name})" for name in names], False, False)
        self.check(["p(X) -> q(X, f(X))"], [f"p({name}) -> q({name}, g{name})" for name in names], False, False)
        self.check([f"p({name}) -> q({name})" for name in names], ["p(X) -> q(X)"], True, False)
        self.check(["p(X, Y) -> q(X)"], [f"p({name}, X) -> q({name})" for name in names], False, True)
        self.check(["p(X, Y) -> q(X)"], [f"p(X, Y), p(X, {name}) -> q(X)" for name in names], False, True)

    def test_beside_all_small_stores(self):
        """Of two variables in a rule, and two constants: if they do not lead for any store, they do not for one of these."""
        stores = all_stores((("p", 2), ("r", 1)), (A, B, X, Y), 2)
        draw = random.Random(61)
        seen = []
        for _ in range(90):
            one, other = drawn_plain(draw, ["f", "g", "h", "k"]), drawn_other(draw)
            if draw.random() < 0.4:
                other = other + one[:1]
            told = unchanged(self, leads_into, one, other)
            wanted = all(slow_leads(slow_fill(one, store), slow_fill(other, store)) for store in stores)
            self.assertEqual(told, wanted, (one, other))
            self.check_one_way(one, other, wanted)
            if is_plain(other):
                back = all(slow_leads(slow_fill(other, store), slow_fill(one, store)) for store in stores)
                self.assertEqual(leads_into(other, one), back)
                self.assertEqual(lead_both_ways(one, other), told and back)
            seen.append(told)
        self.assertGreater(min(seen.count(True), seen.count(False)), 15)

    def test_more_drawn_books(self):
        draw = random.Random(62)
        seen = []
        for _ in range(600):
            one, other = drawn_plain(draw, ["f", "g", "h", "k"]), drawn_other(draw)
            other = other + one[:1] * draw.randint(0, 1)
            wanted = all(slow_leads(*fillings) for fillings in frozen_fillings(one, other))
            self.check_one_way(one, other, wanted)
            seen.append(wanted)
        self.assertGreater(min(seen.count(True), seen.count(False)), 50)


def frozen_fillings(one, other):
    """For each rule of the one, its heads and the filling by the other, of its body with constants."""
    for body, heads in one:
        ways = {"X": X, "Y": Y}
        store = [put_in(part, ways) for part in body]
        yield [put_in(part, ways) for part in heads], slow_fill(other, store)


def put_in(part, ways):
    if isinstance(part, str):
        return ways[part]
    return (part[0], tuple(put_in(inner, ways) for inner in part[1]))


class TestNoLead(unittest.TestCase):
    def test_what_is_shown(self):
        one, other = rules("p(X) -> q(X, f(X)), s(f(X))"), rules("p(X) -> q(X, g(X)), s(h(X))")
        question, store = no_lead(one, other)
        told = fill(question, fill(one, store))
        self.assertEqual(fill_row([one, question], store), told)
        self.assertNotEqual(told, [])
        self.assertEqual(fill_row([other, question], store), [])
        self.assertIsInstance(no_lead(one, other), tuple)

    def test_new(self):
        one = rules("p(X, Y), r(X) -> q(X)")
        first = no_lead(one, ())
        self.assertIsNot(first[1], no_lead(one, ())[1])
        first[1].append(3)
        self.assertEqual(len(no_lead(one, ())[1]), 2)

    def test_the_store_has_no_more_than_the_body(self):
        for text, many in (("p(X), p(X) -> q(X)", 1), ("p(X), p(Y) -> q(X)", 2), ("p(X), p(a), p(Y), p(a) -> q(X)", 3)):
            self.assertEqual(len(no_lead(rules(text), ())[1]), many)


class TestSlowest(unittest.TestCase):
    def check_all(self, one, other):
        for call in (leads_into, no_lead):
            with within_seconds():
                call(one, other)
            with within_seconds():
                call(one, one)
        if is_plain(other):
            with within_seconds():
                lead_both_ways(one, other)
                lead_both_ways(one, one)

    def full(self, draw, k, tag):
        """A rule of four atoms of one relation over four variables, that tells of things made of these."""
        while True:
            body = tuple(("p", tuple(draw.choice("ABCD") for _ in range(4))) for _ in range(4))
            if {name for _, names in body for name in names} == set("ABCD"):
                made = [(f"{tag}{one}{k}", tuple("ABCD")) for one in "xyz"]
                return (body, (("q", (made[0], made[1])), ("q", (made[1], made[2])), ("q", (made[2], made[0]))))

    def test_bodies_that_are_alike_but_for_their_variables(self):
        draw = random.Random(63)
        one, other = ([self.full(draw, k, tag) for k in range(8)] for tag in "fg")
        self.check_all(tuple(one), tuple(other))

    def test_thousands_of_facts(self):
        """Each of the other's rules tells 256 facts of a body of four; no three of them are a round."""
        draw = random.Random(64)
        one = tuple(self.full(draw, k, "f") for k in range(8))
        body = tuple(("p", tuple(LETTERS[4 * k:4 * k + 4])) for k in range(4))
        first, last = [("m", tuple("ABCD")), ("m", tuple("EFGH"))], [("m", tuple("IJKL")), ("m", tuple("MNOP"))]
        rows = [(("l", tuple(first)), ("r", tuple(last))), (("r", tuple(last)), ("s", tuple(first))), (("s", tuple(first)), ("t", tuple(last)))]
        other = tuple((body, (("q", tuple((name + str(k % 8), parts) for name, parts in rows[k % 3])),)) for k in range(24))
        self.assertFalse(is_plain(other))
        self.assertFalse(leads_into(one, other))
        self.check_all(one, other)
        round_of_three = other + ((body, (("q", (("t0", tuple(last)), ("l0", tuple(first)))),)),)
        self.check_all(one, round_of_three[2:])

    def test_one_head_in_many_rules(self):
        draw = random.Random(65)
        one = tuple((self.full(draw, k, "f")[0], (("q", ("A", (f"f{k}", tuple("DCBA")))),)) for k in range(24))
        body = tuple(("p", tuple(LETTERS[4 * k:4 * k + 4])) for k in range(4))
        other = tuple((body, (("q", (draw.choice(LETTERS), (f"g{k}", ("A", "F", "K", "P")))),)) for k in range(24))
        self.check_all(one, other)


class TestInvalid(unittest.TestCase):
    plain, other = rules("p(X) -> q(f(X))"), rules("p(f(X)) -> q(X)")

    def test_no_books(self):
        for call in (leads_into, lead_both_ways, no_lead):
            for book in ((), (SMALL_RULE,), self.plain, self.other):
                check_raises(self, InvalidBook, BAD_BOOKS[::2], lambda bad, call=call, book=book: call(bad, book))
                check_raises(self, InvalidBook, BAD_BOOKS[1::2], lambda bad, call=call, book=book: call(book, bad))

    def test_not_plain(self):
        for texts in NOT_PLAIN:
            bad = rules(*texts)
            for book in ((), self.plain, self.other, bad):
                for call in (leads_into, lead_both_ways, no_lead):
                    self.assertRaises(NotPlain, unchanged, self, call, bad, book)
            self.assertRaises(NotPlain, unchanged, self, lead_both_ways, self.plain, bad)
            self.assertRaises(NotPlain, lead_both_ways, (), bad)
            self.assertIsInstance(leads_into(self.plain, bad), bool)
            self.assertIs(leads_into((), bad), True)
            self.assertIsNone(no_lead((), bad))

    def test_the_same_rule_twice(self):
        self.assertRaises(NotPlain, leads_into, self.plain + self.plain, self.plain)
        self.assertTrue(leads_into(self.plain, self.plain + self.plain))
        self.assertRaises(NotPlain, lead_both_ways, self.plain, self.plain + self.plain)


if __name__ == "__main__":
    unittest.main()
