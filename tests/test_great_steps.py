"""Rows of books of whose steps one begins with thousands of facts."""

import random
import unittest

from fillbooks.errors import TooMany
from fillbooks.joining import fill_row
from helpers import A, B, drawn_part, numbered_facts, renamed, rules, slow_match, variables_of, within_seconds

SIGNS = "0123456789abcdefghijklmn"
THREE = (("p", ("X",)), ("p", ("Y",)), ("p", ("Z",)))


def steady_ways(body, store):
    """All ways to lay a body into a store of unlike facts, an atom at a time; TooMany behind 1,000."""
    ways = [{}]
    for part in body:
        known = sorted(variables_of(part) & set(ways[0] if ways else ()))
        groups = {}
        for fact in store:
            more = {}
            if slow_match(part, fact, more):
                groups.setdefault(tuple(more[name] for name in known), []).append(more)
        ways = [way | more for way in ways for more in groups.get(tuple(way[name] for name in known), [])]
        if len(ways) > 1000:
            raise TooMany()
    return ways


def steady_fill(book, store):
    return {renamed(head, way) for body, heads in book for way in steady_ways(body, store) for head in heads}


def steady_row(books, store):
    facts = set(store)
    for book in books:
        facts = steady_fill(book, sorted(facts))
    return sorted(facts)


def thick(parts):
    """q(.., m(..), m(..)) of nine terms."""
    return ("q", (parts[0], ("m", tuple(parts[1:5])), ("m", tuple(parts[5:9]))))


def key(k, *parts):
    return ("h" + SIGNS[k], parts)


def sign(k):
    return ("t" + SIGNS[k], ())


def names(tag, many=9):
    return [tag + "ABCDEFGHIJKL"[k] for k in range(many)]


def patterns(draw, k, tag):
    """A rule that is laid in 1,000 ways: three atoms more, each with its key and patterns of its own."""
    held = [sign(k)] + names("V", 7) + ["K"]
    body = [thick(held)]
    for row in tag:
        other = ["T" + row] + names(row, 7) + ["K"]
        same = draw.randint(1, 7)
        body.append(thick([draw.choice([other[at], held[at], other[same]]) if 0 < at < 8 else other[at] for at in range(9)]))
    return (tuple(body), (thick(held[:8] + [key(k, "K")]),))


class TestBesideSlowAnswers(unittest.TestCase):
    def first_book(self, draw, many):
        """Rules that tell facts of one relation, with things made in several ways."""
        parts = ["X", "Y", "Z", A, ("f", ("X",)), ("f", ("Y", "X")), ("g", ("Z",)), ("f", (("g", ("X",)),)), ("f", (A,))]
        return tuple((THREE[:draw.choice([2, 3, 3])], ()) for _ in range(many)), parts

    def drawn_books(self, draw):
        bodies, parts = self.first_book(draw, draw.randint(2, 4))
        first = []
        for k, (body, _) in enumerate(bodies):
            known = "XYZ"[:len(body)]
            own = [part for part in parts if variables_of(part) <= set(known)]
            first.append((body, (("q", (sign(k), key(k, *known), draw.choice(own), draw.choice(own))),)))
        second = []
        for _ in range(3):
            body = [("q", (sign(draw.randrange(len(first))), "K", drawn_part(draw, "UVW", 3), drawn_part(draw, "UVW", 3)))]
            for _ in range(draw.randint(0, 2)):
                body.append(("q", (drawn_part(draw, "ST", 1), draw.choice("KKKL"), drawn_part(draw, "UVWX", 3), drawn_part(draw, "UVWY", 3))))
            known = sorted(set().union(*map(variables_of, body)))
            second.append((tuple(body), (("q", tuple(draw.choice(known) for _ in range(3))),)))
        return [tuple(first), tuple(second)]

    def test_drawn_books(self):
        draw = random.Random(91)
        told = refused = 0
        for _ in range(40):
            books, store = self.drawn_books(draw), numbered_facts(draw.choice([8, 9, 10]))
            try:
                wanted = steady_row(books, store)
            except TooMany:
                refused += 1
                self.assertRaises(TooMany, fill_row, books, store)
                continue
            self.assertEqual(fill_row(books, store), wanted)
            told += len(wanted) > 0
        self.assertGreater(told, 8)
        self.assertGreater(refused, 3)

    def test_kinds_of_made_things_in_turn(self):
        """In each of 1,000 facts and some another kind of thing stands at each place."""
        first = rules("p(X), p(Y), p(Z) -> q(f(X), Y, Z), q(g(X), f(Y), Z), q(X, f(Y, Z), f(f(Z)))")
        for text in ("q(f(X), Y, n1) -> r(X, Y)", "q(g(n2), f(Y), Z) -> r(Y, Z)", "q(X, f(Y, Z), f(f(Z))), q(f(X), Y, Z) -> r(X, Y)",
                     "q(f(n1), X, X), q(g(Y), f(X), X) -> r(X, Y)", "q(X, f(X, X), f(Y)) -> r(X, Y)", "q(f(X), X, X), q(g(Y), f(X), Y) -> r(X, Y)",
                     "q(X, Y, f(f(n3))) -> r(X, Y)", "q(f(X), X, Y), q(Y, f(X, Y), Z) -> r(Z)", "q(f(X, Y), Z, W) -> r(X)", "q(n1, f(n2, X), Y) -> r(Y)"):
            books = [first, rules(text)]
            self.assertEqual(fill_row(books, numbered_facts(10)), steady_row(books, numbered_facts(10)))


class TestSlowest(unittest.TestCase):
    def check(self, books, wanted):
        with within_seconds(10):
            self.assertEqual(len(fill_row(books, numbered_facts(10))), wanted)

    def test_unlike_patterns(self):
        """All places but one hold X, Y and Z in some order: few facts have what an atom asks for."""
        draw = random.Random(92)
        first = []
        for k in range(24):
            parts = draw.sample(["X", "Y", "Z"] * 3, 7)
            first.append((THREE, (thick([sign(k)] + parts + [key(k, "X", "Y", "Z")]),)))
        for later in (1, 7):
            books = [tuple(patterns(draw, k, "ABC") for k in range(24)) for _ in range(later)]
            with within_seconds(10):
                fill_row([tuple(first)] + books, numbered_facts(10))

    def test_patterns_that_all_facts_have(self):
        first = tuple((THREE, (thick([sign(k)] + [key(k, "X", "Y", "Z")] * 8),)) for k in range(24))
        draw = random.Random(93)
        later = []
        for k in range(24):
            body = [thick([sign(k)] + ["K"] * 8)]
            for row in "ABC":
                other = [draw.choice(["K", name]) for name in names(row, 8)]
                body.append(thick(["T" + row] + other[:7] + ["K"]))
            later.append((tuple(body), (thick([sign(k)] + [key(k, "K")] * 8),)))
        self.check([first] + [tuple(later)] * 7, 24000)

    def test_things_asked_for_at_unlike_depths(self):
        first = tuple((THREE, (thick([sign(k)] + [("f", (key(k, "X", "Y", "Z"),))] * 8),)) for k in range(24))
        draw = random.Random(94)
        later = []
        for k in range(24):
            body = [thick([sign(k)] + ["L"] * 7 + [("f", ("K",))])]
            for row in "ABC":
                other = [draw.choice(["L", ("f", ("K",)), name, ("f", (name,))]) for name in names(row, 8)]
                body.append(thick(["T" + row] + other[:7] + ["L"]))
            later.append((tuple(body), (thick([sign(k)] + [("f", (key(k, "K"),))] * 8),)))
        self.check([first] + [tuple(later)] * 7, 24000)

    def test_atoms_that_share_no_variable(self):
        """None of the 72 first ones can be laid: what they ask for last is nowhere."""
        first = tuple((THREE, (thick([sign(k)] + ["X", "X", "Y", "Y", "Z", "Z", "Z"] + [key(k, "X", "Y", "Z")]),)) for k in range(24))
        later = []
        for k in range(24):
            body = [thick([sign(k)] + names("V", 7) + ["K"])]
            for at, row in enumerate("ABC"):
                other = names(row, 8)
                other[1] = other[0]
                other[3] = other[2] if k % 2 else other[3]
                other[7] = other[(k // 2 + at) % 7]
                body.insert(0, thick(["T" + row] + other))
            later.append((tuple(body), (thick([sign(k)] + names("V", 7) + ["K"]),)))
        self.check([first, tuple(later)], 0)

    def test_great_heads(self):
        def great(tag, one, two, three):
            rows = [[("h" + tag, (one,)), ("h" + tag, (two,)), ("h" + tag, (three,)), one], [("k" + tag, (one, two)), two, three, one],
                    [("k" + tag, (two, three)), one, ("l" + tag, (one,)), B], [three, A, B]]
            return ("f" + tag, tuple(("g" + tag, tuple(row)) for row in rows))
        orders = ["XYZ", "YZX", "ZXY", "XZY"]
        heads = [("q", tuple(great(tag + SIGNS[k], *order) for tag, order in zip("abcd", orders))) for k in range(24)]
        first = tuple((THREE, (head,)) for head in heads)
        later = tuple(((head,), (head,)) for head in heads)
        self.check([first] + [later] * 3, 24000)


if __name__ == "__main__":
    unittest.main()
