import itertools
import random
import unittest

from fillbooks.errors import InvalidTerm, InvalidWays
from fillbooks.terms import check_term, nth_variable, put, variables_in
from helpers import BAD_TERMS, GOOD_TERMS, chain, count, drawn_term, full_term, levels, unchanged, within_seconds

A, B = ("a", ()), ("b", ())


class TestCheckTerm(unittest.TestCase):
    def test_terms(self):
        for term in GOOD_TERMS:
            with self.subTest(term=term):
                self.assertIsNone(unchanged(self, check_term, term))
                self.assertIsNone(check_term(term=term))

    def test_anything_else(self):
        for value in BAD_TERMS:
            with self.subTest(value=value), within_seconds():
                self.assertRaises(InvalidTerm, unchanged, self, check_term, value)

    def test_thirty_names_and_variables(self):
        for size in range(1, 60):
            for inmost in ("X", "XYZ", A, ("abcdefgh", ())):
                term = full_term(size, inmost)
                self.assertEqual(count(term), size)
                self.assertLess(levels(term), 6)
                if size <= 30:
                    check_term(term)
                else:
                    self.assertRaises(InvalidTerm, check_term, term)

    def test_six_levels(self):
        for many in range(1, 20):
            for inmost in ("X", A):
                term = chain(many, inmost=inmost)
                self.assertEqual(levels(term), many)
                for whole in (term, ("f", (A, term)), ("f", (term, "X"))):
                    if levels(whole) <= 6:
                        check_term(whole)
                    else:
                        self.assertRaises(InvalidTerm, check_term, whole)

    def test_drawn_terms_of_more_levels(self):
        draw = random.Random(19)
        seen = {True: 0, False: 0}
        for _ in range(8000):
            term = drawn_term(draw, ["X", "YZ"], 9)
            good = count(term) <= 30 and levels(term) <= 6
            seen[good] += 1
            if good:
                check_term(term)
            else:
                self.assertRaises(InvalidTerm, check_term, term)
        self.assertGreater(min(seen.values()), 100)

    def test_anything_else_within_terms(self):
        for value in BAD_TERMS:
            for whole in (("f", (value,)), ("f", ("X", value)), ("f", (value, "X")), ("f", (value, value)),
                          ("f", ("X", ("g", (A, value, "Y")), B)), ("f", (("g", (("h", ("X", value, value)),)), A))):
                with self.subTest(whole=whole), within_seconds():
                    self.assertRaises(InvalidTerm, check_term, whole)

    def test_numbers_of_terms(self):
        for many in range(9):
            if many <= 4:
                check_term(("f", ("X",) * many))
                check_term(("f", (("g", (A,) * many),)))
            else:
                self.assertRaises(InvalidTerm, check_term, ("f", ("X",) * many))
                self.assertRaises(InvalidTerm, check_term, ("f", (("g", (A,) * many),)))

    def test_every_sign(self):
        small, digits, great = "abcdefghijklmnopqrstuvwxyz", "0123456789", "ABCDEFGHIJKLMNOPQRSTUVWXYZ"
        for number in range(128):
            sign = chr(number)
            for name in (sign, "a" + sign, sign + "a"):
                if sign in small + digits:
                    check_term((name, ()))
                else:
                    self.assertRaises(InvalidTerm, check_term, (name, ()))
            for variable in (sign, "A" + sign, sign + "A"):
                if sign in great:
                    check_term(variable)
                else:
                    self.assertRaises(InvalidTerm, check_term, variable)

    def test_lengths_of_words(self):
        for many in range(12):
            if 1 <= many <= 8:
                check_term(("a" * many, ()))
            else:
                self.assertRaises(InvalidTerm, check_term, ("a" * many, ()))
            if 1 <= many <= 3:
                check_term("A" * many)
            else:
                self.assertRaises(InvalidTerm, check_term, "A" * many)


class TestVariablesIn(unittest.TestCase):
    def test_ascending_without_repetitions(self):
        self.assertEqual(variables_in("X"), ["X"])
        self.assertEqual(variables_in(A), [])
        self.assertEqual(variables_in(("f", ("B", ("g", ("A", "AA", "AB")), "B"))), ["A", "AA", "AB", "B"])
        self.assertEqual(variables_in(("f", ("Z", "AAA", "Z", "Y"))), ["AAA", "Y", "Z"])
        self.assertEqual(variables_in(chain(6, inmost="ZZZ")), ["ZZZ"])
        self.assertEqual(variables_in(full_term(30, A)), [])
        self.assertEqual(variables_in(term=("f", ("X", A))), ["X"])

    def test_a_new_list_each_time(self):
        term = ("f", ("Y", "X"))
        first = unchanged(self, variables_in, term)
        first.append("W")
        self.assertEqual(variables_in(term), ["X", "Y"])

    def test_drawn_terms(self):
        draw = random.Random(41)
        for _ in range(300):
            term = drawn_term(draw, ["A", "B", "AA", "ZZ", "C"], 3)
            text = repr(term)
            wanted = sorted(name for name in ["A", "B", "AA", "ZZ", "C"] if f"'{name}'" in text)
            self.assertEqual(variables_in(term), wanted)

    def test_anything_else(self):
        for value in BAD_TERMS:
            with self.subTest(value=value), within_seconds():
                self.assertRaises(InvalidTerm, unchanged, self, variables_in, value)


class TestPut(unittest.TestCase):
    def test_ordinary(self):
        self.assertEqual(put("X", {"X": A}), A)
        self.assertEqual(put("X", {"X": "Y"}), "Y")
        self.assertEqual(put("X", {"Y": A}), "X")
        self.assertEqual(put(A, {"X": B}), A)
        self.assertEqual(put(("f", ("X", ("g", ("Y", "X")), A)), {"X": B, "Y": ("h", ("Z",))}),
                         ("f", (B, ("g", (("h", ("Z",)), B)), A)))
        self.assertEqual(put(term=("f", ("X",)), ways={"X": A}), ("f", (A,)))

    def test_an_empty_dict(self):
        for term in GOOD_TERMS:
            self.assertEqual(unchanged(self, put, term, {}), term)

    def test_all_at_once(self):
        self.assertEqual(put(("f", ("X", "Y")), {"X": "Y", "Y": "X"}), ("f", ("Y", "X")))
        self.assertEqual(put("X", {"X": "Y", "Y": A}), "Y")
        self.assertEqual(put("X", {"X": ("f", ("X",))}), ("f", ("X",)))
        self.assertEqual(put(("f", ("X", "Y", "Z")), {"X": ("g", ("Y", "Z")), "Y": "Z", "Z": "X"}),
                         ("f", (("g", ("Y", "Z")), "Z", "X")))

    def test_keys_that_do_not_stand_in_it(self):
        self.assertEqual(put(("f", ("X",)), {"X": A, "Y": B, "ZZZ": "X"}), ("f", (A,)))
        self.assertEqual(put(("f", ("X", "XX")), {"XX": A}), ("f", ("X", A)))

    def test_what_is_no_variable_stays(self):
        self.assertEqual(put(("x", (("x", ()),)), {"X": A}), ("x", (("x", ()),)))

    def test_what_comes_may_be_greater(self):
        term = put(full_term(30), {"X": full_term(30, "Y")})
        leaves = repr(full_term(30)).count("'X'")
        self.assertEqual(count(term), 30 - leaves + 30 * leaves)
        self.assertEqual(levels(put(chain(6, inmost="X"), {"X": chain(6)})), 11)
        self.assertRaises(InvalidTerm, check_term, term)

    def test_what_is_passed_stays(self):
        ways = {"X": ("f", ("Y",)), "Y": A}
        self.assertEqual(unchanged(self, put, ("g", ("X", "Y")), ways), ("g", (("f", ("Y",)), A)))
        self.assertEqual(list(ways), ["X", "Y"])

    def test_no_term(self):
        for value in BAD_TERMS:
            for ways in ({}, {"X": A}, None, [], {"X": None}, {1: A}):
                with self.subTest(value=value, ways=ways), within_seconds():
                    self.assertRaises(InvalidTerm, unchanged, self, put, value, ways)

    def test_no_dict(self):
        for ways in (None, True, False, 0, 3, "", "X", [], ["X"], [("X", A)], (), (("X", A),), ("X", A)):
            for term in ("X", A, ("f", ("X",))):
                with self.subTest(ways=ways, term=term):
                    self.assertRaises(InvalidWays, unchanged, self, put, term, ways)

    def test_keys_that_are_no_variables(self):
        for key in (None, True, 0, 1, "", "x", "a", "ABCD", "Ab", "A1", " X", "X\n", (), ("X",), A, ("f", ("X",))):
            for ways in ({key: A}, {"X": B, key: A}, {key: A, "X": B}):
                with self.subTest(ways=ways):
                    self.assertRaises(InvalidWays, unchanged, self, put, "X", ways)
                    self.assertRaises(InvalidWays, put, A, ways)

    def test_things_behind_them_that_are_no_terms(self):
        for value in BAD_TERMS:
            for ways in ({"X": value}, {"Y": value}, {"X": A, "Y": value}, {"Y": value, "X": A}):
                with self.subTest(value=value), within_seconds():
                    self.assertRaises(InvalidWays, unchanged, self, put, ("f", ("X",)), ways)

    def test_terms_behind_them(self):
        for value in GOOD_TERMS:
            self.assertEqual(put(("f", ("X", "W")), {"X": value}), ("f", (value, "W")))

    def test_many_keys(self):
        letters = "ABCDEFGHIJKLMNOPQRSTUVWXYZ"
        ways = {one + other: A for one in letters for other in letters}
        self.assertEqual(put(("f", ("AA", "ZZ", "A")), ways), ("f", (A, A, "A")))


class TestNthVariable(unittest.TestCase):
    def test_the_row_of_all_variables(self):
        letters = "ABCDEFGHIJKLMNOPQRSTUVWXYZ"
        wanted = ["".join(signs) for many in (1, 2, 3) for signs in itertools.product(letters, repeat=many)]
        self.assertEqual([nth_variable(k) for k in range(len(wanted))], wanted)


if __name__ == "__main__":
    unittest.main()
