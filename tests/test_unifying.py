import itertools
import random
import unittest

from fillbooks.errors import InvalidPairs, TooMany
from fillbooks.terms import put
from fillbooks.unifying import unified
from helpers import BAD_TERMS, GOOD_TERMS, count, drawn_term, full_term, levels, unchanged, within_seconds

A, B = ("a", ()), ("b", ())


def f(*parts):
    return ("f", parts)


def g(*parts):
    return ("g", parts)


def variable(number, first="A"):
    """An own variable for each number below 676, of three letters."""
    letters = "ABCDEFGHIJKLMNOPQRSTUVWXYZ"
    return first + letters[number // 26] + letters[number % 26]


def bundle(equations):
    """One pair of terms that holds up to 16 equations."""
    def side(which):
        terms = [pair[which] for pair in equations]
        if len(terms) > 4:
            terms = [("e", tuple(terms[k:k + 4])) for k in range(0, len(terms), 4)]
        return ("e", tuple(terms))
    return side(0), side(1)


def bundled(equations):
    """Pairs of terms that hold the equations in their order, as many in each as the numbers let."""
    groups = [[]]
    for pair in equations:
        whole = bundle(groups[-1] + [pair])
        if len(groups[-1]) == 16 or max(map(count, whole)) > 30 or max(map(levels, whole)) > 6:
            groups.append([])
        groups[-1].append(pair)
    return [bundle(group) for group in groups]


def doubling(many, first="A", inmost=None):
    """Equations by which each variable is made of the next one twice."""
    rows = [(variable(k, first), f(variable(k + 1, first), variable(k + 1, first))) for k in range(many)]
    return rows + ([(variable(many, first), inmost)] if inmost else [])


def replace_in(term, name, come):
    if isinstance(term, str):
        return come if term == name else term
    return (term[0], tuple(replace_in(part, name, come) for part in term[1]))


def names_in(term):
    return {term} if isinstance(term, str) else {name for part in term[1] for name in names_in(part)}


def slow_answer(pairs):
    """The dict by the rules of a school book: one equation after the other, all written out."""
    todo, found = list(pairs), {name: name for pair in pairs for term in pair for name in names_in(term)}
    while todo:
        one, other = todo.pop(0)
        if one == other:
            continue
        if not isinstance(one, str) and not isinstance(other, str):
            if one[0] != other[0] or len(one[1]) != len(other[1]):
                return None
            todo = list(zip(one[1], other[1])) + todo
            continue
        name, come = (one, other) if isinstance(one, str) else (other, one)
        if name in names_in(come):
            return None
        todo = [(replace_in(left, name, come), replace_in(right, name, come)) for left, right in todo]
        found = {key: replace_in(term, name, come) for key, term in found.items()}
    least = {}
    for name in sorted(found):
        if isinstance(found[name], str):
            least.setdefault(found[name], name)
    for name, come in least.items():
        found = {key: replace_in(term, name, "=" + come) for key, term in found.items()}
    return {key: without_signs(term) for key, term in found.items()}


def without_signs(term):
    if isinstance(term, str):
        return term.lstrip("=")
    return (term[0], tuple(without_signs(part) for part in term[1]))


class TestOrdinary(unittest.TestCase):
    def test_the_example(self):
        pairs = [(f("X", "Y"), f("Y", g("Z")))]
        self.assertEqual(unchanged(self, unified, pairs), {"X": g("Z"), "Y": g("Z"), "Z": "Z"})
        self.assertEqual(unified(pairs=pairs), {"X": g("Z"), "Y": g("Z"), "Z": "Z"})

    def test_no_pairs(self):
        self.assertEqual(unified([]), {})
        first = unified([])
        first["X"] = A
        self.assertEqual(unified([]), {})

    def test_pairs_that_are_the_same(self):
        for term in GOOD_TERMS:
            with self.subTest(term=term):
                answer = unified([(term, term)])
                self.assertEqual(answer, {name: name for name in names_in(term)})
        self.assertEqual(unified([("X", "X"), (A, A), (f("Y"), f("Y"))]), {"X": "X", "Y": "Y"})
        self.assertEqual(unified([(A, A)]), {})

    def test_one_variable(self):
        for term in GOOD_TERMS:
            if "W" not in names_in(term):
                wanted = {name: name for name in names_in(term)}
                if isinstance(term, str):
                    wanted = {"W": min(term, "W"), term: min(term, "W")}
                else:
                    wanted["W"] = term
                self.assertEqual(unified([("W", term)]), wanted)
                self.assertEqual(unified([(term, "W")]), wanted)

    def test_all_variables_are_told(self):
        self.assertEqual(unified([(f("X", "U"), f(A, "U")), ("V", "V")]), {"U": "U", "V": "V", "X": A})

    def test_over_several_pairs(self):
        pairs = [("X", f("Y")), ("Y", g("Z", "Z")), ("Z", A)]
        for order in itertools.permutations(pairs):
            self.assertEqual(unified(list(order)), {"X": f(g(A, A)), "Y": g(A, A), "Z": A})

    def test_deep_within(self):
        self.assertEqual(unified([(f(g("X", A), "X"), f(g("Y", "Z"), g("Z")))]), {"X": g(A), "Y": g(A), "Z": A})
        self.assertEqual(unified([("X", f("Y", "Z")), ("X", f("Z", "W"))]),
                         {"W": "W", "X": f("W", "W"), "Y": "W", "Z": "W"})

    def test_one_name_of_unlike_numbers_within_one_term(self):
        term = f(("f", ()), f("X"))
        self.assertEqual(unified([(term, f("Y", f("Y")))]), {"X": ("f", ()), "Y": ("f", ())})

    def test_a_new_dict_each_time(self):
        pairs = [("X", f("Y"))]
        first = unified(pairs)
        first["X"] = first["Z"] = A
        self.assertEqual(unified(pairs), {"X": f("Y"), "Y": "Y"})
        self.assertIsNot(unified(pairs), unified(pairs))


class TestNone(unittest.TestCase):
    def check_none(self, pairs):
        for order in itertools.permutations(pairs):
            exchanged = [(other, one) for one, other in order]
            self.assertIsNone(unchanged(self, unified, list(order)))
            self.assertIsNone(unified(exchanged))

    def test_unlike_names(self):
        self.check_none([(A, B)])
        self.check_none([(f("X"), g("X"))])
        self.check_none([(f("X", A), f("Y", B))])
        self.check_none([("X", A), ("X", B)])
        self.check_none([("X", A), ("Y", B), ("X", "Y")])
        self.check_none([(f("X"), "Y"), ("Z", "Y"), ("Z", g("X"))])

    def test_unlike_numbers_of_terms(self):
        self.check_none([(f("X"), f("X", "X"))])
        self.check_none([(f("X"), ("f", ()))])
        self.check_none([(("f", ()), f("X", "Y", "Z"))])
        self.check_none([("X", f("Y")), ("X", f("Y", "Y"))])
        self.check_none([(g(f("X", "X")), g(f("X", "X", "X")))])

    def test_a_variable_in_its_own_term(self):
        self.check_none([("X", f("X"))])
        self.check_none([("X", f(A, g("Y", "X")))])
        self.check_none([(f("X", "X"), f("Y", g("Y")))])
        self.check_none([("X", f("X", "X", "X", "X"))])

    def test_a_round_over_several_pairs(self):
        self.check_none([("X", f("Y")), ("Y", g("X"))])
        self.check_none([("X", f("Y")), ("Y", "Z"), ("Z", f("W")), ("W", "X")])
        self.check_none([("X", f("Y")), ("Z", f("X")), ("Y", "Z")])
        self.check_none([("X", f("Y")), ("X", f(f("Y")))])
        self.check_none([(f("X", "Y"), f(g("Y"), g("X")))])

    def test_what_is_sound_beside_it_does_not_help(self):
        self.check_none([("U", "V"), (A, B), ("W", f("U"))])
        self.check_none([("U", A), ("X", f("X"))])


class TestLeastVariables(unittest.TestCase):
    def test_two(self):
        for one, other in itertools.permutations(["A", "AA", "AAA", "AB", "B", "Z", "ZA", "ZZZ"], 2):
            self.assertEqual(unified([(one, other)]), {one: min(one, other), other: min(one, other)})

    def test_drawn_orders(self):
        draw = random.Random(5)
        names = ["A", "AA", "AAA", "AB", "B", "BA", "C", "ZZ", "ZZZ", "Q", "QQ"]
        for _ in range(400):
            draw.shuffle(names)
            at = draw.randint(2, 9)
            groups = [names[:at], names[at:]]
            rows = []
            for group in groups:
                for k in range(1, len(group)):
                    pair = (group[k], draw.choice(group[:k]))
                    rows.append(pair if draw.random() < 0.5 else (pair[1], pair[0]))
            draw.shuffle(rows)
            wanted = {name: min(group) for group in groups for name in group}
            self.assertEqual(unified(rows), wanted)
            rows.append((f(draw.choice(groups[0]), B), "W"))
            draw.shuffle(rows)
            self.assertEqual(unified(rows), wanted | {"W": f(min(groups[0]), B)})

    def test_within_terms(self):
        self.assertEqual(unified([(f("C", "B", "D"), f("B", "A", "D"))]), {"A": "A", "B": "A", "C": "A", "D": "D"})
        self.assertEqual(unified([("Z", g("Y")), ("Y", "X"), ("W", "Z")]),
                         {"W": g("X"), "X": "X", "Y": "X", "Z": g("X")})
        self.assertEqual(unified([("A", g("Z")), ("A", g("Y"))]), {"A": g("Y"), "Y": "Y", "Z": "Y"})


class TestDrawn(unittest.TestCase):
    def drawn_pairs(self, draw, variables, deep):
        many = draw.choice([1, 1, 2, 2, 3, 4])
        return [tuple(drawn_term(draw, variables, deep) for _ in range(2)) for _ in range(many)]

    def test_beside_a_slow_answer(self):
        draw = random.Random(7)
        told = 0
        for _ in range(6000):
            pairs = self.drawn_pairs(draw, ["X", "Y", "Z", "W", "A", "AA", "B"], draw.choice([2, 3]))
            wanted = slow_answer(pairs)
            if wanted is not None and max([count(term) for term in wanted.values()], default=0) > 60:
                self.assertRaises(TooMany, unified, pairs)
                continue
            answer = unchanged(self, unified, pairs)
            self.assertEqual(answer, wanted, pairs)
            told += answer is not None
            if answer is not None:
                for term in answer.values():
                    self.assertEqual(put_all(term, answer), term)
                for one, other in pairs:
                    self.assertEqual(put_all(one, answer), put_all(other, answer))
            turned = [(other, one) for one, other in reversed(pairs)]
            self.assertEqual(unified(turned), wanted)
        self.assertGreater(told, 1000)

    def test_all_other_ways_come_of_it(self):
        draw = random.Random(11)
        values = [A, B, f(A), f(B), f(A, A), f(A, B), f(B, A), f(f(A)), g(A, A), f("X"), "X", "Q"]
        some = 0
        for _ in range(400):
            pairs = self.drawn_pairs(draw, ["X", "Y", "Z"], 2)
            answer = unified(pairs)
            names = sorted({name for pair in pairs for term in pair for name in names_in(term)})
            for choice in itertools.product(values, repeat=len(names)):
                ways = dict(zip(names, choice))
                holds = all(put_all(one, ways) == put_all(other, ways) for one, other in pairs)
                some += holds and answer is not None and bool(names)
                comes = answer is not None and all(put_all(answer[name], ways) == ways[name] for name in names)
                self.assertEqual(holds, comes, (pairs, ways))
        self.assertGreater(some, 1000)


def put_all(term, ways):
    """As put, for terms of any size."""
    if isinstance(term, str):
        return ways.get(term, term)
    return (term[0], tuple(put_all(part, ways) for part in term[1]))


class TestTooMany(unittest.TestCase):
    def sized(self, last):
        """Equations by which X has 2 * 29 + 1 names and variables, and as many more as are in last."""
        return [("X", f("Y", "Y", *last)), ("Y", f("V", "V")), ("V", f("U", "U", "Z")), ("U", f("T", "T", "Z")),
                ("T", f("Z"))]

    def test_just_sixty_by_doubling(self):
        for order in itertools.permutations(self.sized(["Z"])):
            answer = unified(list(order))
            self.assertEqual({name: count(term) for name, term in answer.items()},
                             {"T": 2, "U": 6, "V": 14, "X": 60, "Y": 29, "Z": 1})

    def test_sixty_one_by_doubling(self):
        for order in itertools.permutations(self.sized(["Z", "Z"])):
            self.assertRaises(TooMany, unchanged, self, unified, list(order))

    def test_names_and_variables_count(self):
        for inmost in ("W", A):
            whole = full_term(29, inmost)
            answer = unified([("X", f("Y", "Y", inmost)), ("Y", whole)])
            self.assertEqual((count(answer["X"]), count(answer["Y"])), (60, 29))
            self.assertRaises(TooMany, unified, [("X", f("Y", "Y", inmost, inmost)), ("Y", whole)])
            self.assertRaises(TooMany, unified, [("X", f("Y", "Y")), ("Y", full_term(30, inmost))])
            self.assertRaises(TooMany, unified, [(full_term(30, inmost), "Y"), (f("Y", "Y"), "X")])

    def test_only_terms_of_variables_count(self):
        whole = full_term(24, "UA")
        self.assertEqual(unified([(f("U", "U", "U", "U"), f(whole, "V", "W", "Q"))]),
                         {"U": whole, "V": whole, "W": whole, "Q": whole, "UA": "UA"})
        self.assertRaises(TooMany, unified, [(f("U", "U", "U", "U"), f(whole, "V", "W", "Q")), ("X", f("U", "V", "W"))])

    def test_deep_terms(self):
        for many in range(1, 90):
            equations = [(variable(k), f(variable(k + 1))) for k in range(many)]
            for rows in (equations, [(other, one) for one, other in reversed(equations)]):
                pairs = bundled(rows)
                self.assertLessEqual(len(pairs), 10)
                if many < 60:
                    term = unified(pairs)["AAA"]
                    self.assertEqual((count(term), levels(term)), (many + 1, many + 1))
                else:
                    self.assertRaises(TooMany, unified, pairs)


class TestDoubling(unittest.TestCase):
    def ways(self, equations):
        """The pairs of the equations in several orders, each with its sides exchanged by the draw."""
        draw = random.Random(3)
        rows = list(equations)
        for _ in range(6):
            pairs = bundled([pair if draw.random() < 0.5 else (pair[1], pair[0]) for pair in rows])
            self.assertLessEqual(len(pairs), 10)
            yield pairs
            draw.shuffle(rows)

    def check_all(self, equations, wanted):
        for pairs in self.ways(equations):
            with within_seconds():
                if wanted is TooMany:
                    self.assertRaises(TooMany, unchanged, self, unified, pairs)
                else:
                    self.assertEqual(unchanged(self, unified, pairs), wanted)

    def test_one_chain(self):
        for many in (5, 6, 7, 40, 90):
            for inmost in (None, A, f("C"), f("C", "C")):
                self.check_all(doubling(many, inmost=inmost), TooMany)

    def test_one_chain_of_few(self):
        for many in range(1, 5):
            wanted = {variable(many): variable(many)}
            for k in reversed(range(many)):
                wanted[variable(k)] = f(wanted[variable(k + 1)], wanted[variable(k + 1)])
            self.check_all(doubling(many), wanted)

    def test_two_chains_made_the_same(self):
        for many in (5, 20, 45):
            self.check_all(doubling(many, "A") + doubling(many, "B") + [("AAA", "BAA")], TooMany)
        wanted = {"AAE": "AAE", "BAE": "AAE"}
        for k in reversed(range(4)):
            wanted[variable(k)] = wanted[variable(k, "B")] = f(wanted[variable(k + 1)], wanted[variable(k + 1)])
        self.check_all(doubling(4, "A") + doubling(4, "B") + [("AAA", "BAA")], wanted)

    def test_none_at_the_end_of_two_chains(self):
        for one, other in ((A, B), (f("C"), f("C", "C")), (f("C"), g("C")), (f(A), f(B))):
            for many in (3, 20, 44):
                equations = doubling(many, "A", one) + doubling(many, "B", other)
                self.check_all(equations + [("AAA", "BAA")], None)
                self.check_all([(f("AAA"), f("BAA"))] + equations, None)

    def test_none_by_chains_of_unlike_lengths(self):
        equations = doubling(44, "A") + doubling(43, "B") + [("AAA", "BAA")]
        self.check_all(equations + [(variable(44), variable(43, "B"))], None)
        self.check_all(equations + [(variable(44), B), (variable(43, "B"), f(B, B))], TooMany)

    def test_none_by_a_round_over_a_chain(self):
        for inmost in (f("AAA", A), f("C", "AAB"), g("AAC"), f(f("AAD"))):
            self.check_all(doubling(90, "A", inmost), None)
        self.check_all(doubling(44, "A", g("BAA")) + doubling(44, "B", g("AAA")), None)

    def test_none_goes_ahead_of_too_many(self):
        for wrong in ([(A, B)], [("C", f("C"))], [("C", A), (B, "C")], [("C", f("D")), ("D", f("C"))]):
            self.check_all(doubling(80) + wrong, None)
            self.check_all(wrong + doubling(80), None)

    def test_some_hundreds_deep(self):
        deep = [(variable(k), f(f(f(variable(k + 1))))) for k in range(70)]
        self.check_all(deep, TooMany)
        self.check_all(deep + [(variable(70), f("AAA"))], None)
        self.check_all(deep + [(variable(70), f(f("C"))), ("AAA", f(f("D")))], TooMany)

    def test_the_deepest(self):
        """The sides are exchanged in turn, so that ten pairs hold as much as they can."""
        deep = [(variable(k), f(f(f(variable(k + 1))))) for k in range(95)]
        for rows, wanted in ((deep, TooMany), (deep + [(variable(95), f("AAA"))], None)):
            pairs = bundled([pair[::(-1) ** k] for k, pair in enumerate(rows)])
            self.assertEqual(len(pairs), 10)
            for given in (pairs, pairs[::-1], [pair[::-1] for pair in pairs]):
                with within_seconds():
                    if wanted is None:
                        self.assertIsNone(unified(given))
                    else:
                        self.assertRaises(TooMany, unified, given)

    def test_three_and_four_times(self):
        for parts in (3, 4):
            rows = [(variable(k), ("f", (variable(k + 1),) * parts)) for k in range(60)]
            self.check_all(rows, TooMany)
            self.check_all(rows + [(variable(60), f("ABA"))], None)


class TestInvalidPairs(unittest.TestCase):
    def check_invalid(self, pairs):
        with self.subTest(pairs=pairs), within_seconds():
            self.assertRaises(InvalidPairs, unchanged, self, unified, pairs)

    def test_no_list(self):
        for value in (None, True, False, 0, 2, "", "X", "XY", (), (("X", A),), ("X", A), {}, {"X": A}, A):
            self.check_invalid(value)

    def test_ten_pairs_and_eleven(self):
        for many in range(13):
            pairs = [(variable(k), A) for k in range(many)]
            if many <= 10:
                self.assertEqual(unified(pairs), {variable(k): A for k in range(many)})
                self.assertEqual(unified([(A, A)] * many), {})
            else:
                self.check_invalid(pairs)
                self.check_invalid([(A, A)] * many)
        self.check_invalid([("X", "Y")] * 200)
        self.assertIsNone(unified([("X", A)] * 9 + [("X", B)]))

    def test_no_tuple_of_two(self):
        for value in (None, True, 3, "", "X", "XY", [], ["X", A], [A, A], (), ("X",), (A,), ("X", "X", "X"),
                      ("X", A, A), {"X": A}, {"X": A, "Y": A}, [("X", A)], (("X", A),), A):
            self.check_invalid([value])
            self.check_invalid([value, ("X", "X")])
            self.check_invalid([("X", "X"), value])

    def test_no_term(self):
        for value in BAD_TERMS:
            for pair in (("X", value), (value, "X"), (value, value), (A, value), (value, A)):
                self.check_invalid([pair])
            self.check_invalid([("X", "X"), ("Y", "Y"), ("X", value)])
            self.check_invalid([(value, "X"), ("Y", "Y")])

    def test_ahead_of_every_answer(self):
        self.check_invalid([(A, B), ("X", None)])
        self.check_invalid([("X", f("X")), ("X", "x")])
        self.check_invalid(bundled(doubling(20)) + [(A, ["a", ()])])

    def test_terms_of_all_edges(self):
        for one in GOOD_TERMS:
            for other in GOOD_TERMS:
                with self.subTest(one=one, other=other):
                    wanted = slow_answer([(one, other)])
                    if wanted is not None and max([count(term) for term in wanted.values()], default=0) > 60:
                        self.assertRaises(TooMany, unified, [(one, other)])
                    else:
                        self.assertEqual(unified([(one, other)]), wanted)


if __name__ == "__main__":
    unittest.main()
