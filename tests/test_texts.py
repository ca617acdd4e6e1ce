import itertools
import random
import unittest

from fillbooks.errors import InvalidBook, InvalidRule, InvalidTerm, InvalidText
from fillbooks.texts import book_text, read_rule, read_term, rule_text, term_text
from helpers import (A, B, BAD_BOOKS, BAD_RULES, BAD_TERMS, GOOD_BOOKS, GOOD_RULES, GOOD_TERMS, SMALL_RULE, book_of, chain,
                     check_raises, drawn_rule, drawn_term, full_term, unchanged, within_seconds)

NO_STRINGS = [None, True, False, 0, 5, 10 ** 29, [], ["X"], (), ("X",), A, {}, {"X": "X"}, SMALL_RULE]
SMALL, GREAT = "abcdefghijklmnopqrstuvwxyz0123456789", "ABCDEFGHIJKLMNOPQRSTUVWXYZ"


class Signs:
    """A text looked at sign by sign: a slow answer for the place of the first wrong one.

    The state tells what the last sign was: "term" (a term has to come), "atom" (an atom has to
    come), a word of how many signs, "named" (blanks behind a name), "told" (behind a whole term),
    "arrow" (behind the `-`).
    """

    def __init__(self, rule):
        self.rule, self.behind, self.open, self.state, self.many = rule, False, 0, "atom" if rule else "term", 0

    def take(self, sign):
        """Take the sign; tell whether it can stand here."""
        if self.state in ("term", "atom"):
            return self.begin(sign)
        if self.state == "arrow":
            self.state, self.behind = "atom", True
            return sign == ">"
        if self.state in ("name", "variable"):
            own, longest = (SMALL, 8) if self.state == "name" else (GREAT, 3)
            if sign in SMALL + GREAT:
                self.many += 1
                return sign in own and self.many <= longest
            self.state = "named" if self.state == "name" else "told"
        if sign == " ":
            return True
        if self.state == "named" and sign == "(":
            self.open, self.state = self.open + 1, "term"
            return True
        if self.state == "named" and self.rule and self.open == 0:
            return False
        return self.behind_a_term(sign)

    def begin(self, sign):
        if sign != " ":
            if sign not in SMALL + (GREAT if self.state == "term" else ""):
                return False
            self.state, self.many = "name" if sign in SMALL else "variable", 1
        return True

    def behind_a_term(self, sign):
        if sign == ")" and self.open > 0:
            self.open, self.state = self.open - 1, "told"
            return True
        if sign == "," and (self.open > 0 or self.rule):
            self.state = "term" if self.open > 0 else "atom"
            return True
        if sign == "-" and self.rule and self.open == 0 and not self.behind:
            self.state = "arrow"
            return True
        return False

    def may_end(self):
        if self.open > 0 or self.behind != self.rule:
            return False
        return self.state == "told" or (not self.rule and self.state in ("name", "variable", "named"))


def slow_place(text, rule=False):
    """The place of the first wrong sign; None if the text is one in form."""
    signs = Signs(rule)
    for at, sign in enumerate(text):
        if not signs.take(sign):
            return at
    return None if signs.may_end() else len(text)


def place(call, text):
    """The place that the call tells; None if it tells of none."""
    try:
        call(text)
    except InvalidText as wrong:
        return wrong.at
    except (InvalidTerm, InvalidRule):
        return None
    return None


def pieces(text):
    """The words and signs of a text, without its blanks."""
    found, word = [], ""
    for sign in text + " ":
        if sign.isalnum():
            word += sign
            continue
        found += [word] * bool(word) + [sign] * (sign not in " >")
        word = ""
    return [{"-": "->"}.get(piece, piece) for piece in found]


def with_blanks(draw, text):
    """The text with a drawn number of blanks at each place where they may stand."""
    return "".join(" " * draw.choice([0, 0, 0, 1, 2, 5]) + piece for piece in pieces(text)) + " " * draw.choice([0, 3])


class TestTermText(unittest.TestCase):
    def test_ordinary(self):
        for term, text in (("X", "X"), ("ABC", "ABC"), (A, "a"), (("0z", ()), "0z"), (("f", ("X",)), "f(X)"),
                           (("f", ("X", A)), "f(X, a)"), (("f", (("f", ()), ("f", ("X", "Y", "Z", "W")))), "f(f, f(X, Y, Z, W))"),
                           (chain(6), "f(f(f(f(f(c)))))")):
            self.assertEqual(unchanged(self, term_text, term), text)
            self.assertEqual(term_text(term=term), text)
            self.assertEqual(unchanged(self, read_term, text), term)
            self.assertEqual(read_term(text=text), term)

    def test_read_back(self):
        draw = random.Random(2)
        for term in GOOD_TERMS + [drawn_term(draw, ["X", "YZ", "ABC"], 4) for _ in range(500)]:
            text = term_text(term)
            self.assertEqual(read_term(text), term)
            self.assertNotIn("  ", text)
            self.assertEqual(text.replace(" ", "").replace(",", ", "), text)

    def test_no_term(self):
        check_raises(self, InvalidTerm, BAD_TERMS, term_text)


class TestReadTerm(unittest.TestCase):
    def test_blanks(self):
        draw = random.Random(3)
        for _ in range(600):
            term = drawn_term(draw, ["X", "YZ", "ABC"], 4, (("a", 0), ("f", 1), ("g", 2), ("h12345", 4)))
            self.assertEqual(read_term(with_blanks(draw, term_text(term))), term)
            self.assertEqual(read_term("".join(pieces(term_text(term)))), term)
        self.assertEqual(read_term("  f  (  X  ,  g  (  a  )  )  "), ("f", ("X", ("g", (A,)))))
        self.assertEqual([read_term(" X "), read_term("  a")], ["X", A])
        self.assertEqual(read_term(" " * 19999 + "X"), "X")

    def test_blanks_stand_in_no_word(self):
        for text, at in (("a b", 2), ("X Y", 2), ("f(a b)", 4), ("f(A B)", 4), ("f (X Y)", 5), ("f g(X)", 2), ("X (Y)", 2)):
            self.assertEqual(place(read_term, text), at, text)

    def test_other_white_signs_are_none(self):
        for sign in "\t\n":
            for text, at in ((sign + "X", 0), ("X" + sign, 1), ("f" + sign + "(X)", 1), ("f(" + sign + "X)", 2),
                             ("f(X" + sign + ")", 3), ("f(X," + sign + "Y)", 4), ("f(X)" + sign, 4), (sign, 0), (" " + sign, 1)):
                self.assertEqual(place(read_term, text), at, text)

    def test_places(self):
        for text, at in (("", 0), (" ", 1), ("     ", 5), ("f(", 2), ("f( ", 3), ("f(X", 3), ("f(X,", 4), ("f(X, ", 5), ("f()", 2),
                         ("f( )", 3), ("f(,)", 2), ("f(X,)", 4), ("f(X,,Y)", 4), ("f(X))", 4), ("f(X) g", 5), ("f(X)(Y)", 4), ("X(Y)", 1),
                         ("(X)", 0), (")", 0), (",", 0), ("f(X),", 4), ("aX", 1), ("Xa", 1), ("X1", 1), ("f(aX)", 3), ("f(Xa)", 3),
                         ("aX(", 1), ("abcdefghi", 8), ("abcdefgh", None), ("ABCD", 3), ("ABC", None), ("abcdefghX", 8), ("ABCa", 3),
                         ("f(abcdefghi)", 10), ("f(ABCD)", 5), ("f[X]", 1), ("f(X;Y)", 3), ("f-g", 1), ("f->g", 1), ("f.g", 1), ("_", 0),
                         ("f(X)->g(X)", 4), ("f(g(X)", 6), ("f(g(X)Y)", 6), ("f(X Y)", 4), ("f(X(Y))", 3), ("~", 0), ("f(a(),X)", 4)):
            self.assertEqual(place(read_term, text), at, text)
            self.assertEqual(slow_place(text), at, text)

    def test_all_short_texts(self):
        for many in range(7):
            for text in map("".join, itertools.product("aX(), ", repeat=many)):
                self.assertEqual(place(read_term, text), slow_place(text), text)

    def test_cut_off_and_changed(self):
        draw = random.Random(4)
        for _ in range(60):
            text = with_blanks(draw, term_text(drawn_term(draw, ["X", "YZ", "ABC"], 4)))
            for at in range(len(text) + 1):
                self.assertEqual(place(read_term, text[:at]), slow_place(text[:at]), text[:at])
                for sign in draw.sample("aZ(), 9-\t", 3):
                    for other in (text[:at] + sign + text[at:], text[:at] + text[at + 1:], text[:at] + sign + text[at + 1:]):
                        self.assertEqual(place(read_term, other), slow_place(other), other)

    def test_no_string(self):
        for value in NO_STRINGS:
            with self.subTest(value=value):
                self.assertEqual(place(read_term, value), 0)
                self.assertRaises(InvalidText, unchanged, self, read_term, value)

    def great_texts(self):
        """Texts that are right in form, of what is no term by its numbers."""
        return ["f(X, X, X, X, X)", "g(f(a, a, a, a, a))", "f(f(f(f(f(f(X))))))", "f(" * 60 + "X" + ")" * 60,
                "f(" + "X," * 9000 + "X)", "f(X, f(X, X, X, X), f(X, X, X, X), f(X, X, X, f(f(X, X, X, X), f(X, X, X, X), f(X, X, X, X), X)))"]

    def test_too_great(self):
        for text in self.great_texts():
            with self.subTest(text=text[:60]), within_seconds():
                self.assertRaises(InvalidTerm, read_term, text)
                self.assertRaises(InvalidTerm, read_term, text.replace(",", " ,").replace("(", " ("))
        self.assertEqual(read_term("f(f(f(f(f(X)))))"), chain(6, inmost="X"))
        for size in range(25, 36):
            text = term_text(full_term(30)).replace("X", "X" if size <= 30 else "g(X)", max(size - 30, 0))
            if size <= 30:
                self.assertEqual(term_text(full_term(size)), term_text(read_term(term_text(full_term(size)))))
            else:
                self.assertRaises(InvalidTerm, read_term, text)

    def test_a_slip_goes_ahead_of_what_is_too_great(self):
        for text in self.great_texts():
            for other, at in ((text + ")", len(text)), (text + " a", len(text) + 1), (text[:-1], len(text) - 1),
                              (text + ",", len(text)), (text[:-1] + "a", slow_place(text[:-1] + "a"))):
                with self.subTest(text=other[:60]), within_seconds():
                    self.assertEqual(place(read_term, other), at)


class TestRuleText(unittest.TestCase):
    def test_ordinary(self):
        rule = ((("works", ("X", "Y")),), (("desk", ("X", ("no", ("X",)))), ("at", (("no", ("X",)), "Y"))))
        text = "works(X, Y) -> desk(X, no(X)), at(no(X), Y)"
        self.assertEqual(unchanged(self, rule_text, rule), text)
        self.assertEqual(rule_text(rule=rule), text)
        self.assertEqual(unchanged(self, read_rule, text), rule)
        self.assertEqual(read_rule(text=text), rule)
        self.assertEqual(rule_text(((("p", (A,)), ("p", (A,)), ("r", ("X", "X"))), (("q", ("X",)),))),
                         "p(a), p(a), r(X, X) -> q(X)")

    def test_read_back(self):
        draw = random.Random(5)
        for rule in GOOD_RULES + [drawn_rule(draw, ("X", "YY", "ZZZ"), deep=3, heads=3, most=4) for _ in range(300)]:
            self.assertEqual(read_rule(rule_text(rule)), rule)

    def test_no_rule(self):
        check_raises(self, InvalidRule, BAD_RULES, rule_text)


class TestReadRule(unittest.TestCase):
    def test_blanks(self):
        draw = random.Random(6)
        for _ in range(300):
            rule = drawn_rule(draw, ("X", "YY", "ZZZ"), deep=3, heads=3, most=4)
            self.assertEqual(read_rule(with_blanks(draw, rule_text(rule))), rule)
            self.assertEqual(read_rule("".join(pieces(rule_text(rule)))), rule)
        self.assertEqual(read_rule("  p  (  X  )  ,  p  (  a  )  ->  q  (  X  )  ,  q  (  a  )  "),
                         ((("p", ("X",)), ("p", (A,))), (("q", ("X",)), ("q", (A,)))))

    def test_places(self):
        for text, at in (("", 0), ("  ", 2), ("p", 1), ("p ", 2), ("p(", 2), ("p(X)", 4), ("p(X) ", 5), ("p(X) -", 6), ("p(X) ->", 7),
                         ("p(X) -> ", 8), ("p(X) -> q", 9), ("p(X) -> q(X", 11), ("p(X) -> q(X),", 13), ("p(X),", 5), ("-> q(X)", 0),
                         (" -> q(X)", 1), ("p(X) - > q(X)", 6), ("p(X) > q(X)", 5), ("p(X) -- q(X)", 6), ("p(X) ->> q(X)", 7),
                         ("p(X) -> -> q(X)", 8), ("p(X) -> q(X) -> q(X)", 13), ("p(X) -> q(X)->", 12), ("X -> q(X)", 0), ("X(Y) -> q(X)", 0),
                         ("p(X), Y -> q(X)", 6), ("p(X) -> Y", 8), ("p(X) -> q(X), Y", 14), ("p -> q(X)", 2), ("p(X) -> q", 9),
                         ("p(X) -> q ", 10), ("p(X) -> q, q(X)", 9), ("p, q(X) -> q(X)", 1), ("p() -> q(X)", 2), ("p(X) -> q()", 10),
                         ("p(X)) -> q(X)", 4), ("p(X -> q(X)", 4), ("p(X) q(X) -> q(X)", 5), ("p(X) -> q(X) q(X)", 13), ("p(X) -> q(X))", 12),
                         ("p(X) -> q(X)x", 12), ("p(X),, q(X) -> q(X)", 5), (", p(X) -> q(X)", 0), ("abcdefghi(X) -> q(X)", 8),
                         ("p(ABCD) -> q(X)", 5), ("pX(X) -> q(X)", 1), ("p(X) -> q(X)\n", 12), ("p(X)\t-> q(X)", 4), ("p(X) ->\tq(X)", 7),
                         ("p(-> q(X)", 2), ("p(X,-> q(X)", 4), ("p(q) -> q(q -> a)", 12), ("p(X) => q(X)", 5), ("(p(X)) -> q(X)", 0)):
            self.assertEqual(place(read_rule, text), at, text)
            self.assertEqual(slow_place(text, True), at, text)

    def test_all_short_texts(self):
        for start in ("", "p(X)", "p(X)->q", "p(X) ->q(a)"):
            for many in range(5):
                for text in map("".join, itertools.product("aX(), ->", repeat=many)):
                    self.assertEqual(place(read_rule, start + text), slow_place(start + text, True), start + text)

    def test_cut_off_and_changed(self):
        draw = random.Random(8)
        for _ in range(60):
            text = with_blanks(draw, rule_text(drawn_rule(draw, ("X", "YY", "ZZZ"), deep=2, heads=3, most=3)))
            for at in range(len(text) + 1):
                self.assertEqual(place(read_rule, text[:at]), slow_place(text[:at], True), text[:at])
                for sign in draw.sample("aZ(), 9->\n", 3):
                    for other in (text[:at] + sign + text[at:], text[:at] + text[at + 1:], text[:at] + sign + text[at + 1:]):
                        self.assertEqual(place(read_rule, other), slow_place(other, True), other)

    def test_no_string(self):
        for value in NO_STRINGS:
            with self.subTest(value=value):
                self.assertEqual(place(read_rule, value), 0)
                self.assertRaises(InvalidText, unchanged, self, read_rule, value)

    def great_texts(self):
        """Texts that are right in form, of what is no rule."""
        deep = "f(" * 190 + "X" + ")" * 190
        return ["p(X), p(X), p(X), p(X), p(X) -> q(X)", "p(X) -> q(X), q(X), q(X), q(X)", "p(X, X, X, X, X) -> q(X)",
                "p(X) -> q(X, X, X, X, X)", "p(X) -> q(Y)", "p(a) -> q(X)", "p(X) -> q(X), q(f(X, Y))", "p(f(f(f(f(f(f(X))))))) -> q(X)",
                "p(f(X, X, X, X, X)) -> q(X)", "p(X) -> q(f(f(f(f(f(f(X)))))))", "p(" + deep + ") -> q(X)",
                "p(X) -> q(" + deep + ")", "p(" + "X," * 9000 + "X) -> q(X)", ", ".join(["p(X)"] * 99) + " -> q(X)"]

    def test_no_rule(self):
        for text in self.great_texts():
            with self.subTest(text=text[:60]), within_seconds():
                self.assertRaises(InvalidRule, read_rule, text)

    def test_the_bounds(self):
        for text in ("p(X), p(X), p(X), p(X) -> q(X), q(X), q(X)", "p(X, X, X, X) -> q(X, X, X, X)", "p(f(f(f(f(f(X)))))) -> q(f(X, X, X, X))",
                     "p(a) -> q(b)", "abcdefgh(ABC) -> abcdefgh(ABC)", "p(" + term_text(full_term(30)) + ") -> q(X)"):
            self.assertEqual(rule_text(read_rule(text)), text)

    def test_a_slip_goes_ahead_of_what_is_no_rule(self):
        for text in self.great_texts():
            for other, at in ((text + ")", len(text)), (text + " a", len(text) + 1), (text[:-1], len(text) - 1),
                              (text + ",", len(text) + 1), (text + " ->", len(text) + 1)):
                with self.subTest(text=other[:60]), within_seconds():
                    self.assertEqual(place(read_rule, other), at)


class TestBookText(unittest.TestCase):
    def test_ordinary(self):
        self.assertEqual(book_text(()), "")
        self.assertEqual(unchanged(self, book_text, (SMALL_RULE,)), "p(X) -> q(X)\n")
        self.assertEqual(book_text(book=(SMALL_RULE, ((("p", (B,)),), (("q", (B,)),)), SMALL_RULE)),
                         "p(X) -> q(X)\np(b) -> q(b)\np(X) -> q(X)\n")

    def test_line_by_line(self):
        for book in GOOD_BOOKS + [book_of(24, 24)]:
            lines = book_text(book).split("\n")
            self.assertEqual(lines.pop(), "")
            self.assertEqual(tuple(map(read_rule, lines)), book)

    def test_no_book(self):
        check_raises(self, InvalidBook, BAD_BOOKS, book_text)


if __name__ == "__main__":
    unittest.main()
