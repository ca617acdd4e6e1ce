import itertools
import random
import unittest

from fillbooks.errors import InvalidPairs, InvalidStore
from fillbooks.told import clash, surely
from helpers import (A, B, BAD_FACTS, C, all_stores, check_raises, facts, nested, numbered_facts, slow_fill, unchanged,
                     variables_of, within_seconds)

D, E, F = ("d", ()), ("e", ()), ("f", ())
PAIR = ([("p", (A,))], [("t", (A,))])


def pair(store, filling):
    return (facts(*store), facts(*filling))


def values_of(store):
    return sorted({value for _, values in store for value in values})


def all_maps(store, aims):
    """All maps of the values of a store to these ones."""
    values = values_of(store)
    return [dict(zip(values, chosen)) for chosen in itertools.product(aims, repeat=len(values))]


def led(fact, way):
    return (fact[0], tuple(way[value] for value in fact[1]))


def slow_clash(pairs):
    """By a look at all maps of values."""
    for number, (store, filling) in enumerate(pairs):
        strange = [fact for fact in filling if not set(fact[1]) <= set(values_of(store))]
        if strange:
            return (number, number, min(strange))
    for first, second in itertools.product(range(len(pairs)), repeat=2):
        (store, filling), (aim, other) = pairs[first], pairs[second]
        missing = [led(fact, way) for way in all_maps(store, values_of(aim)) if all(led(part, way) in aim for part in store)
                   for fact in filling if led(fact, way) not in other]
        if missing:
            return (first, second, min(missing))
    return None


def slow_surely(pairs, further):
    if slow_clash(pairs) is not None:
        return None
    return sorted({led(fact, way) for store, filling in pairs for way in all_maps(store, values_of(further))
                   if all(led(part, way) in further for part in store) for fact in filling})


def all_rules(kinds, told):
    """All rules of one or two atoms, and of variables alone, but for the names of the variables."""
    parts = [(relation, row) for relation, many in kinds for row in itertools.product("XYZW", repeat=many)]
    found = {}
    for body in [(part,) for part in parts] + list(itertools.product(parts, repeat=2)):
        names = []
        for part in body:
            names += [name for name in part[1] if name not in names]
        if names == list("XYZW")[:len(names)]:
            known = sorted(set().union(*map(variables_of, body)))
            for relation, many in told:
                for row in itertools.product(known, repeat=many):
                    found[(body, ((relation, row),))] = True
    return list(found)


def drawn_small_store(draw, most, values, kinds):
    store = []
    for _ in range(draw.randint(1, most)):
        relation, many = draw.choice(kinds)
        store.append((relation, tuple(draw.choice(values) for _ in range(many))))
    return store


def drawn_pairs(draw, most=4, values=(A, B, C), kinds=(("p", 2), ("r", 1)), many=3, book=None):
    """Pairs of which the fillings are nearly those by some rules."""
    pairs = []
    for _ in range(draw.randint(1, many)):
        store = drawn_small_store(draw, most, values, kinds)
        filling = slow_fill(book, store) if book else []
        if draw.random() < 0.4:
            filling = [fact for fact in filling if draw.random() < 0.8]
        if draw.random() < 0.3:
            filling.append(("t", (draw.choice(values_of(store)),)))
        if draw.random() < 0.1:
            filling.append(("t", (draw.choice(values),)))
        draw.shuffle(filling)
        pairs.append((store, filling[:12]))
    return pairs


RULES = all_rules((("p", 2), ("r", 1)), (("t", 1), ("t", 2)))


class TestClash(unittest.TestCase):
    def check(self, pairs, wanted):
        """Each pair is told as two lists of texts, what clashes with the text of its fact."""
        pairs = [pair(*some) for some in pairs]
        told = unchanged(self, clash, pairs)
        self.assertEqual(told, wanted if wanted is None else wanted[:2] + (facts(wanted[2])[0],))
        self.assertEqual(clash(pairs=pairs), told)
        self.assertEqual(slow_clash(pairs), told)

    def test_the_example(self):
        pairs = [([("p", (A, B)), ("p", (B, C))], [("t", (A, C))])]
        self.assertIsNone(clash(pairs))
        self.assertEqual(surely(pairs, [("p", (A, A)), ("p", (A, B))]), [("t", (A, A)), ("t", (A, B))])

    def test_ordinary(self):
        self.check([(["p(a)"], ["t(a)"])], None)
        self.check([(["p(a)"], [])], None)
        self.check([(["p(a)", "p(b)"], ["t(a)"])], (0, 0, "t(b)"))
        self.check([(["p(a)", "p(b)", "r(a)"], ["t(a)"])], None)
        self.check([(["p(a, b)"], ["t(a)"]), (["p(c, d)"], ["t(d)"])], (0, 1, "t(c)"))
        self.check([(["p(a, b)"], ["t(a)"]), (["p(c, d)"], ["t(c)"])], None)
        self.check([(["p(a, b)"], ["t(a)"]), (["p(c, c)"], [])], (0, 1, "t(c)"))
        self.check([(["p(a, a)"], ["t(a)"]), (["p(c, b)"], [])], None)

    def test_values_that_the_store_does_not_bear(self):
        self.check([(["p(a)"], ["t(b)"])], (0, 0, "t(b)"))
        self.check([(["p(a)"], ["t(c)", "t(a)", "t(b)", "s(d)"])], (0, 0, "s(d)"))
        self.check([(["p(a)"], ["t(a)"]), (["p(b)"], ["t(b)", "t(a)"]), (["p(c)"], ["t(a)", "s(b)"])], (1, 1, "t(a)"))
        self.check([(["p(a)", "p(b)"], ["t(a)"]), (["p(b)"], ["t(c)"])], (1, 1, "t(c)"))
        self.check([(["p(a, b)"], ["t(a, b, c)", "t(a, b, a)"])], (0, 0, "t(a, b, c)"))

    def test_the_least_pair(self):
        good, less, more = (["p(a)"], ["t(a)"]), (["p(a)"], []), (["p(a)", "p(b)"], ["t(b)"])
        self.check([good, less], (0, 1, "t(a)"))
        self.check([less, good], (1, 0, "t(a)"))
        self.check([good, good, less, less], (0, 2, "t(a)"))
        self.check([less, less, good, more], (2, 0, "t(a)"))
        self.check([more, less], (0, 0, "t(a)"))
        self.check([less, more], (1, 0, "t(a)"))
        self.check([(["r(a)"], []), (["r(b)"], []), more], (2, 2, "t(a)"))
        self.check([(["r(a)"], ["s(a)"]), (["r(b)"], ["s(b)"]), more, less], (2, 2, "t(a)"))

    def test_the_least_fact(self):
        self.check([(["p(b)", "p(c)", "p(a)", "p(d)"], ["t(b)", "t(d)"])], (0, 0, "t(a)"))
        self.check([(["p(a, b)", "p(b, a)"], ["t(b)", "s(a)", "t(b, b)"])], (0, 0, "s(b)"))
        self.check([(["p(a)"], ["t(a)", "s(a, a)", "s(a)"]), (["p(b)", "p(a)"], ["t(a)", "t(b)"])], (0, 1, "s(a)"))

    def test_maps_that_make_unlike_values_the_same(self):
        self.check([(["p(a, b)"], ["t(a)"]), (["p(c, c)"], ["t(c)"])], None)
        self.check([(["p(a, b)", "p(b, c)"], ["t(a, c)"]), (["p(a, a)"], [])], (0, 1, "t(a, a)"))
        self.check([(["p(a)", "p(b)", "r(a)", "s(b)"], ["t(a)"]), (["p(a)", "r(a)", "s(a)"], [])], (0, 1, "t(a)"))

    def test_facts_twice_and_in_any_order(self):
        self.check([(["p(b)", "p(a)", "p(b)"], ["t(b)", "t(a)", "t(b)", "t(b)"])], None)
        self.check([(["p(b)", "p(a)", "p(b)"], ["t(b)", "t(b)"])], (0, 0, "t(a)"))

    def test_relations_and_numbers_of_terms(self):
        self.check([(["p(a)"], ["t(a)"]), (["r(a)", "p(a, a)"], [])], None)
        self.check([(["p(a)"], ["p(a)", "p(a, a)"]), (["p(b)", "r(c)"], ["p(b)"])], (0, 1, "p(b, b)"))
        self.check([(["p(a, b, c, d)"], ["t(d, c, b, a)"]), (["p(a, a, b, b)"], ["t(b, b, a, a)"])], None)

    def test_beside_all_maps(self):
        draw = random.Random(131)
        seen = []
        for _ in range(600):
            book = tuple(draw.choice(RULES) for _ in range(draw.randint(0, 2)))
            pairs = drawn_pairs(draw, values=draw.choice([(A, B), (A, B, C), (A, B, C, D)]), book=book)
            told = unchanged(self, clash, pairs)
            self.assertEqual(told, slow_clash(pairs), pairs)
            seen.append("none" if told is None else "same" if told[0] == told[1] else "unlike")
        for word in ("none", "same", "unlike"):
            self.assertGreater(seen.count(word), 60)

    def test_beside_all_rules(self):
        """Of two facts in a store, rules of two atoms do: some book fits if all rules that never tell too much do."""
        draw = random.Random(132)
        stores = all_stores((("p", 2), ("r", 1)), (A, B), 2)[1:]
        seen = []
        for _ in range(60):
            book = tuple(draw.choice(RULES) for _ in range(draw.randint(1, 2)))
            pairs = drawn_pairs(draw, most=2, values=(A, B, C), many=2, book=book)
            good = [rule for rule in RULES if all(set(slow_fill((rule,), store)) <= set(filling) for store, filling in pairs)]
            fits = all(set(slow_fill(good, store)) == set(filling) for store, filling in pairs)
            self.assertEqual(clash(pairs) is None, fits, pairs)
            if fits:
                further = draw.choice(stores)
                possible = sorted(set(slow_fill(good, further)))
                wanted = [fact for fact in possible if not self.fits_without(good, pairs, further, fact)]
                self.assertEqual(surely(pairs, further), wanted)
            seen.append(fits)
        self.assertGreater(min(seen.count(True), seen.count(False)), 10)

    def fits_without(self, good, pairs, further, fact):
        """Whether some of these rules fit that do not tell the fact of the further store."""
        rest = [rule for rule in good if fact not in slow_fill((rule,), further)]
        return all(set(slow_fill(rest, store)) == set(filling) for store, filling in pairs)

    def test_slowest(self):
        many = [A, B, C, D, E]
        store = [("p", (value,)) for value in many] + [("r", (A, B, C, D)), ("r", (E, E, E, E)), ("r", (A, A, A, A))]
        flat = [("p", (value,)) for value in many]
        filling = [("t", row) for row in itertools.islice(itertools.product(many, repeat=4), 12)]
        for pairs in ([(store, filling)] * 5, [(flat, filling)] * 5, [(flat, [])] * 5, [(flat, [("t", (value,)) for value in many])] * 5):
            with within_seconds():
                clash(pairs)
            with within_seconds():
                surely(pairs, store)
            with within_seconds():
                surely(pairs, flat)


class TestSurely(unittest.TestCase):
    def check(self, pairs, further, wanted):
        pairs, further = [pair(*some) for some in pairs], facts(*further)
        told = unchanged(self, surely, pairs, further)
        self.assertEqual(told, wanted if wanted is None else facts(*wanted))
        self.assertEqual(surely(store=further, pairs=pairs), told)
        self.assertEqual(slow_surely(pairs, further), told)

    def test_ordinary(self):
        self.check([(["p(a)"], ["t(a)"])], ["p(c)", "p(b)"], ["t(b)", "t(c)"])
        self.check([(["p(a, b)"], ["t(a)", "s(b)"])], ["p(c, d)", "p(d, d)"], ["s(d)", "t(c)", "t(d)"])
        self.check([(["p(a)", "r(a)"], ["t(a)"])], ["p(b)", "r(c)"], [])
        self.check([(["p(a)"], [])], ["p(a)"], [])
        self.check([(["p(a)"], ["t(a)"])], ["r(a)"], [])

    def test_further_pairs(self):
        first, second = (["p(a, b)"], ["t(a)"]), (["p(a, a)"], ["t(a)", "s(a)"])
        self.check([first], ["p(c, c)", "p(c, d)"], ["t(c)"])
        self.check([first, second], ["p(c, c)", "p(c, d)"], ["s(c)", "t(c)"])
        self.check([first, second, (["r(a)"], ["t(a)"])], ["p(c, d)", "r(d)"], ["t(c)", "t(d)"])

    def test_a_store_that_is_given(self):
        draw = random.Random(133)
        some = 0
        for _ in range(200):
            pairs = drawn_pairs(draw, book=tuple(draw.choice(RULES) for _ in range(2)))
            for store, filling in pairs:
                told = surely(pairs, store)
                if clash(pairs) is None:
                    self.assertEqual(told, sorted(set(filling)))
                    some += len(told) > 0
                else:
                    self.assertIsNone(told)
        self.assertGreater(some, 30)

    def test_other_names_of_values(self):
        self.check([(["p(a, b)", "p(b, a)"], ["t(a)", "t(b)"])], ["p(x, y)", "p(y, x)", "p(x, z)"], ["t(x)", "t(y)"])
        self.check([(["p(0, 1)"], ["t(1)"])], ["p(abcdefgh, 12345678)"], ["t(12345678)"])

    def test_where_none_fits(self):
        self.check([(["p(a)", "p(b)"], ["t(a)"])], ["p(a)"], None)
        self.check([(["p(a)"], ["t(b)"])], ["p(a)"], None)
        self.check([(["p(a)"], ["t(a)"]), (["p(a)"], [])], ["r(a)"], None)

    def test_beside_all_maps(self):
        draw = random.Random(134)
        some = 0
        for _ in range(500):
            pairs = drawn_pairs(draw, book=tuple(draw.choice(RULES) for _ in range(draw.randint(1, 2))))
            further = drawn_small_store(draw, 5, (A, B, C, E), (("p", 2), ("r", 1)))
            told = unchanged(self, surely, pairs, further)
            self.assertEqual(told, slow_surely(pairs, further))
            some += bool(told)
        self.assertGreater(some, 50)

    def test_new_lists(self):
        pairs, store = [PAIR], [("p", (A,))]
        surely(pairs, store).append(3)
        self.assertEqual(surely(pairs, store), [("t", (A,))])


class TestInvalid(unittest.TestCase):
    made = [("p", (("f", (A,)),))]
    few = [[], [("p", (A,))] * 9, [("p", (A,))] * 30, [("p", (A, B, C, D)), ("p", (E, F, A, B))], numbered_facts(6), [("p", ("X",))],
           [("p", (A,)), ("p", (A, ("f", (B,))))], made]
    bad_stores = [None, True, 0, "", "p(a)", (), {}, (("p", (A,)),), ("p", (A,)), [None], [[]], nested(50, lambda thing: [thing])] + few
    bad_fillings = [None, True, 0, "", (), {}, (("t", (A,)),), [None], [("t", (A,))] * 13, [("t", (A,))] * 200, [("t", ("X",))], made,
                    [("t", (A,)), ("t", (("f", (("g", (A,)),)),))]]

    def test_pairs(self):
        for many in range(1, 6):
            self.assertIsNone(clash([PAIR] * many))
            self.assertEqual(surely([PAIR] * many, PAIR[0]), PAIR[1])
        good = [([("p", (A,))] * 8, []), (numbered_facts(5), []), ([("p", (A, B, C, D)), ("p", (E, A, B, C))], []), ([("p", (A,))], [("t", (A,))] * 12)]
        for some in good:
            self.assertIsNone(unchanged(self, clash, [some]))
            self.assertIsInstance(surely([PAIR], some[0]), list)

    def test_no_pairs(self):
        bad = [None, True, False, 0, 7, "", "p", (), {}, [], (PAIR,), PAIR, [PAIR] * 6, [PAIR] * 200, [PAIR, None], [[]], [()], [PAIR[:1]],
               [PAIR + ([],)], [list(PAIR)], [None], [PAIR, PAIR, ()], {PAIR[0][0]: PAIR[1]}, nested(50, lambda thing: [thing])]
        bad += [[(store, [])] for store in self.bad_stores] + [[PAIR, (store, PAIR[1])] for store in self.bad_stores]
        bad += [[(PAIR[0], filling)] for filling in self.bad_fillings] + [[PAIR, (PAIR[0], filling), PAIR] for filling in self.bad_fillings]
        bad += [[([fact], [])] for fact in BAD_FACTS] + [[([("p", (A,))], [fact])] for fact in BAD_FACTS]
        check_raises(self, InvalidPairs, bad, clash)
        for store in (PAIR[0], None, []):
            check_raises(self, InvalidPairs, bad[::3], lambda pairs, store=store: surely(pairs, store))

    def test_no_store(self):
        for pairs in ([PAIR], [(PAIR[0], [("t", (B,))])], [PAIR, (PAIR[0], [])]):
            check_raises(self, InvalidStore, self.bad_stores, lambda store, pairs=pairs: surely(pairs, store))
            check_raises(self, InvalidStore, [[fact] for fact in BAD_FACTS], lambda store, pairs=pairs: surely(pairs, store))


if __name__ == "__main__":
    unittest.main()
