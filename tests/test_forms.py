import itertools
import random
import unittest

from fillbooks.books import check_book
from fillbooks.comparing import alike
from fillbooks.errors import InvalidBook
from fillbooks.forms import least_form, reach
from fillbooks.texts import book_text, rule_text
from helpers import (A, BAD_BOOKS, GOOD_BOOKS, GOOD_RULES, SMALL_RULE, alike_book, check_raises, drawn_book, drawn_rule,
                     drawn_store, full_term, renamed, rules, slow_alike, slow_fill, slow_never_more, unchanged, within_seconds)

LETTERS = "ABCDEFGHIJKLMNOPQRSTUVWXYZ"
NAMES = list(LETTERS) + [one + other for one in LETTERS for other in LETTERS]


def form(*texts):
    """The text of the least form of a book of these rules, in lines."""
    return book_text(least_form(rules(*texts))).split("\n")[:-1]


def in_turn(part):
    """The variables of a term or an atom, one for each place."""
    return [part] if isinstance(part, str) else [name for inner in part[1] for name in in_turn(inner)]


def slow_order(rule):
    """The rule in the least of all orders of its body, its variables named in turn."""
    found = []
    for body in itertools.permutations(rule[0]):
        names = list(dict.fromkeys(name for part in body for name in in_turn(part)))
        ways = dict(zip(names, NAMES))
        found.append((tuple(renamed(part, ways) for part in body), tuple(renamed(part, ways) for part in rule[1])))
    return min(found, key=rule_text)


def slow_form(book):
    """The least form, by leaving out whatever can be left out, one after the other."""
    told = [(body, (head,)) for body, heads in book for head in heads]
    done = False
    while not done:
        done = True
        for at, (body, heads) in enumerate(told):
            rest = tuple(told[:at] + told[at + 1:])
            if slow_never_more((told[at],), rest):
                told, done = list(rest), False
                break
            shorter = [(body[:k] + body[k + 1:], heads) for k in range(len(body)) if len(body) > 1]
            fit = [one for one in shorter if set(in_turn(("", heads))) <= set(in_turn(("", one[0])))
                   and slow_never_more((one,), (told[at],))]
            if fit:
                told[at], done = fit[0], False
                break
    return tuple(sorted(map(slow_order, told), key=rule_text))


class TestLeastForm(unittest.TestCase):
    def test_the_example(self):
        book = rules("p(X, Y), p(Z, Y), p(X, U) -> q(X), q(f(X))", "p(b, X) -> q(b)")
        self.assertEqual(book_text(unchanged(self, least_form, book)), "p(A, B) -> q(A)\np(A, B) -> q(f(A))\n")
        self.assertEqual(least_form(book=book), least_form(book))

    def test_needless_atoms(self):
        self.assertEqual(form("p(X, Y), p(X, Y) -> q(X)"), ["p(A, B) -> q(A)"])
        self.assertEqual(form("p(X, Y), p(X, Z), p(U, Z), p(U, W) -> q(X)"), ["p(A, B) -> q(A)"])
        self.assertEqual(form("p(X, X), p(X, Y) -> q(X)"), ["p(A, A) -> q(A)"])
        self.assertEqual(form("p(X, X), p(X, Y) -> q(Y)"), ["p(A, A), p(A, B) -> q(B)"])
        self.assertEqual(form("p(X, f(Y)), p(X, Z) -> q(X)"), ["p(A, f(B)) -> q(A)"])
        self.assertEqual(form("p(X, f(Y)), p(X, Z) -> q(Z)"), ["p(A, B), p(A, f(C)) -> q(B)"])
        self.assertEqual(form("p(a, Y), p(X, Y) -> q(Y)"), ["p(a, A) -> q(A)"])
        self.assertEqual(form("p(f(X), g(X, Y)), p(Z, g(W, V)), p(Z, U) -> q(b)"), ["p(f(A), g(A, B)) -> q(b)"])

    def test_atoms_that_are_needed(self):
        for text in ("p(A, B), p(B, C) -> q(A)", "p(A, B), p(B, A) -> q(A)", "p(A), r(A) -> q(A)", "p(A), r(B) -> q(A)",
                     "p(A, B), p(B, C), p(C, A) -> q(a)", "p(A), p(A, B) -> q(A)", "p(a), p(b) -> q(a)", "p(A), p(f(B)) -> q(A)"):
            self.assertEqual(form(text), [text])
        self.assertEqual(form("p(A, B), p(B, C), p(C, D), p(D, E) -> q(A)"), ["p(A, B), p(B, C), p(C, D), p(D, E) -> q(A)"])

    def test_cycles(self):
        four = "p(X, Y), p(Y, X), p(Y, Z), p(Z, Y)"
        self.assertEqual(form(four + " -> q(a)"), ["p(A, B), p(B, A) -> q(a)"])
        self.assertEqual(form("p(X, Y), p(Y, Z), p(Z, W), p(W, X) -> q(a)"), ["p(A, B), p(B, C), p(C, D), p(D, A) -> q(a)"])
        self.assertEqual(form("p(X, Y), p(Z, Y), p(Z, W), p(X, W) -> q(a)"), ["p(A, B) -> q(a)"])
        self.assertEqual(form("p(X, Y), p(Y, X), p(Z, Z) -> q(a)"), ["p(A, A) -> q(a)"])

    def test_needless_rules(self):
        self.assertEqual(form("p(X, Y) -> q(X)", "p(X, X) -> q(X)", "p(a, Y) -> q(a)", "p(X, Y), r(Z) -> q(X)"), ["p(A, B) -> q(A)"])
        self.assertEqual(form("p(X, X) -> q(X)", "p(X, Y) -> q(X)"), ["p(A, B) -> q(A)"])
        self.assertEqual(form("p(Z, X) -> q(Z)", "p(X, Y), p(X, Z) -> q(X)", "p(B, A) -> q(B)"), ["p(A, B) -> q(A)"])
        self.assertEqual(form("p(X) -> q(X)", "p(f(X)) -> q(f(X))"), ["p(A) -> q(A)"])
        self.assertEqual(form("p(f(X)) -> q(f(X))", "p(X) -> q(X, X)"), ["p(A) -> q(A, A)", "p(f(A)) -> q(f(A))"])

    def test_heads_are_parted(self):
        self.assertEqual(form("p(X, Y) -> s(Y), q(X), q(f(Y))"), ["p(A, B) -> q(A)", "p(A, B) -> q(f(B))", "p(A, B) -> s(B)"])
        self.assertEqual(form("p(X) -> q(X), q(X), q(X)"), ["p(A) -> q(A)"])
        self.assertEqual(form("p(X), r(X) -> q(X), s(X)", "p(X) -> q(X)"), ["p(A) -> q(A)", "p(A), r(A) -> s(A)"])

    def test_order_of_the_rules_is_that_of_their_texts(self):
        self.assertEqual(form("r(X) -> q(X)", "p(X) -> q(X)", "p(X, Y) -> q(X)", "p9(X) -> q(X)", "p(a) -> q(b)", "p(f(X)) -> a(X)"),
                         ["p(A) -> q(A)", "p(A, B) -> q(A)", "p(a) -> q(b)", "p(f(A)) -> a(A)", "p9(A) -> q(A)", "r(A) -> q(A)"])
        for book in (drawn_book(random.Random(seed), 6, heads=3) for seed in range(100)):
            lines = book_text(least_form(book)).split("\n")[:-1]
            self.assertEqual(lines, sorted(set(lines)))

    def test_names_and_orders_that_hang_on_one_another(self):
        self.assertEqual(form("p(X, Y), p(Y, X), r(X) -> q(Y)"), ["p(A, B), p(B, A), r(A) -> q(B)"])
        self.assertEqual(form("p(X, Y), p(Y, Z), p(Z, X), p(X, X) -> q(Y, Z)"), ["p(A, A), p(A, B), p(B, C), p(C, A) -> q(B, C)"])
        self.assertEqual(form("s(X, Y), p(Y), p(X) -> q(X, Y)"), ["p(A), p(B), s(A, B) -> q(A, B)"])
        self.assertEqual(form("p(Z, Y, X, W), p(W, X, Y, Z) -> q(X)"), ["p(A, B, C, D), p(D, C, B, A) -> q(B)"])
        draw = random.Random(31)
        for _ in range(300):
            kinds = draw.choice([(("p", 2),), (("p", 3),), (("p", 2), ("p", 3)), (("p", 4),)])
            book = (drawn_rule(draw, "XYZUVW", kinds, (("q", 2), ("q", 1)), draw.choice([1, 1, 3]), most=4),)
            told = least_form(book)
            self.assertEqual(told, tuple(map(slow_order, told)), book)
            for order in itertools.islice(itertools.permutations(book[0][0]), 6):
                self.assertEqual(least_form(((order, book[0][1]),)), told)

    def test_more_than_26_variables(self):
        """Several of them: one stands in all terms of an atom, all atoms are alike in form."""
        body = tuple((f"p{k}", tuple(("f", (one + other, "SAM")) for other in "ABCD")) for k, one in enumerate("PQRS"))
        text = book_text(least_form(((body, (("q", ("SD",)),)),)))
        self.assertEqual(text, "p0(f(A, B), f(C, B), f(D, B), f(E, B)), p1(f(F, B), f(G, B), f(H, B), f(I, B)), p2(f(J, B), f(K, B), "
                               "f(L, B), f(M, B)), p3(f(N, B), f(O, B), f(P, B), f(Q, B)) -> q(Q)\n")
        body = tuple((f"p{k}", tuple(("f", tuple(one + other + "X" for one in "ZY")) for other in LETTERS[4 * k:4 * k + 4]))
                     for k in range(4))
        text = book_text(least_form(((body, (("q", ("ZMX", "YNX", "ZOX")),)),)))
        self.assertEqual(text, "p0(f(A, B), f(C, D), f(E, F), f(G, H)), p1(f(I, J), f(K, L), f(M, N), f(O, P)), p2(f(Q, R), f(S, T), "
                               "f(U, V), f(W, X)), p3(f(Y, Z), f(AA, AB), f(AC, AD), f(AE, AF)) -> q(Y, AB, AC)\n")

    def test_the_row_of_names(self):
        """64 variables, each in a place of its own."""
        many = iter([one + other for one in "QRSTUVW" for other in LETTERS])
        body = tuple((f"p{k}", tuple(("f", tuple(next(many) for _ in range(4))) for _ in range(4))) for k in range(4))
        head = ("q", (body[3][1][3][1][3], body[1][1][2][1][1], body[0][1][0][1][0], body[1][1][2][1][2]))
        told = least_form(((body, (head,)),))
        self.assertEqual(in_turn(("", told[0][0])), NAMES[:64])
        self.assertEqual(told[0][1], (("q", ("BL", "Z", "A", "AA")),))
        self.assertEqual((NAMES[51], NAMES[52], NAMES[63]), ("AZ", "BA", "BL"))

    def test_beside_a_slow_answer(self):
        draw = random.Random(32)
        for _ in range(500):
            book = drawn_book(draw, 4, variables=draw.choice(["XY", "XYZ"]), deep=draw.choice([1, 1, 3]), heads=2)
            told = unchanged(self, least_form, book)
            self.assertEqual(told, slow_form(book), book_text(book))

    def test_fills_alike_and_nothing_can_be_left_out(self):
        draw = random.Random(33)
        for _ in range(200):
            book = drawn_book(draw, 4, deep=draw.choice([1, 3]), heads=3, most=4)
            told = least_form(book)
            check_book(told)
            self.assertTrue(slow_alike(book, told))
            for _ in range(5):
                store = drawn_store(draw, 5)
                self.assertEqual(slow_fill(told, store), slow_fill(book, store))
            for at, (body, heads) in enumerate(told):
                self.assertEqual(len(heads), 1)
                self.assertFalse(slow_alike(told[:at] + told[at + 1:], told))
                for k in range(len(body)):
                    less = (body[:k] + body[k + 1:], heads)
                    if less[0] and set(in_turn(("", heads))) <= set(in_turn(("", less[0]))):
                        self.assertFalse(slow_alike(told[:at] + (less,) + told[at + 1:], told))

    def test_alike_books_have_the_same(self):
        draw = random.Random(34)
        unlike = 0
        for _ in range(500):
            book = drawn_book(draw, 4, deep=draw.choice([1, 1, 3]), heads=2)
            other = alike_book(draw, book)
            told = least_form(book)
            self.assertEqual(least_form(other), told, (book_text(book), book_text(other)))
            self.assertEqual(least_form(told), told)
            unlike += other != book
            third = drawn_book(draw, 2, variables="XY", relations=(("p", 1), ("r", 1)), told=(("q", 1),))
            fourth = drawn_book(draw, 2, variables="XY", relations=(("p", 1), ("r", 1)), told=(("q", 1),))
            self.assertEqual(least_form(third) == least_form(fourth), slow_alike(third, fourth))
            self.assertEqual(least_form(third) == least_form(fourth), alike(third, fourth))
        self.assertGreater(unlike, 300)

    def test_edges(self):
        self.assertEqual(least_form(()), ())
        for book in GOOD_BOOKS + [(rule,) for rule in GOOD_RULES]:
            with within_seconds():
                told = unchanged(self, least_form, book)
                check_book(told)
                self.assertEqual(least_form(told), told)
        self.assertEqual(least_form((SMALL_RULE,) * 24), rules("p(A) -> q(A)"))

    def test_slowest(self):
        alike_atoms = tuple(("p", tuple(LETTERS[4 * k:4 * k + 4])) for k in range(4))
        draw = random.Random(35)
        with within_seconds():
            book = tuple((alike_atoms, (("q", tuple(draw.sample(LETTERS[:16], 4))),)) for _ in range(24))
            least_form(book)
            crossed = tuple((tuple(("p", tuple(draw.choice(LETTERS[:9]) for _ in range(4))) for _ in range(4)), (("q", (A,)),))
                            for _ in range(24))
            least_form(crossed)
            great = full_term(30)
            names = [f"{one}{other}" for one in LETTERS[:5] for other in LETTERS[:5]]
            book = tuple((tuple(("p", tuple(renamed(great, {"X": draw.choice(names)}) for _ in range(4))) for _ in range(4)),
                          (("q", (A,)),)) for _ in range(24))
            least_form(book)

    def test_no_book(self):
        check_raises(self, InvalidBook, BAD_BOOKS, least_form)


class TestReach(unittest.TestCase):
    def test_ordinary(self):
        for many, texts in ((0, []), (1, ["p(X) -> q(X)"]), (1, ["p(X, Y), p(Z, Y) -> q(X)"]), (2, ["p(X, Y), p(Y, X) -> q(X)"]),
                            (3, ["p(X, Y), p(Y, Z), p(Z, X) -> q(X)", "r(X) -> q(X)"]), (1, ["p(X), r(X) -> q(X)", "p(X) -> q(X)"]),
                            (4, ["p(X, Y), p(Y, Z), p(Z, U), p(U, V) -> q(a)"]), (2, ["p(a), p(b), p(X) -> q(X)", "p(X) -> q(X)",
                                                                                     "p(a), p(b) -> q(c)"])):
            self.assertEqual(unchanged(self, reach, rules(*texts)), many)
            self.assertEqual(reach(book=rules(*texts)), many)

    def test_longest_body_of_the_least_form(self):
        draw = random.Random(36)
        seen = set()
        for _ in range(300):
            book = drawn_book(draw, 3, heads=2, most=4)
            self.assertEqual(reach(book), max([len(body) for body, _ in slow_form(book)], default=0))
            self.assertIsInstance(reach(book), int)
            seen.add(reach(book))
        self.assertEqual(seen, {0, 1, 2, 3, 4})

    def test_each_fact_is_told_of_so_few(self):
        draw = random.Random(37)
        for _ in range(100):
            book = drawn_book(draw, 2, heads=2)
            store = drawn_store(draw, 6)
            told = set()
            for chosen in itertools.combinations(store, min(reach(book), len(store))):
                told |= set(slow_fill(book, list(chosen)))
            self.assertEqual(sorted(told), slow_fill(book, store))

    def test_no_book(self):
        check_raises(self, InvalidBook, BAD_BOOKS, reach)


if __name__ == "__main__":
    unittest.main()
