import random
import unittest

from fillbooks.books import check_book, check_store
from fillbooks.errors import InvalidLine, InvalidRow, InvalidStore
from fillbooks.papers import paper_text, read_paper
from fillbooks.texts import rule_text, term_text, text_of
from helpers import (BAD_ROWS, BAD_STORES, SMALL_RULE, book_of, chain, check_raises, drawn_book, drawn_store, facts, full_term,
                     numbered_facts, rules, unchanged, within_seconds)

GOOD = "fact p(a)\nbook\nrule p(X) -> q(X)\n"


class PaperTest(unittest.TestCase):
    def check_wrong(self, text, line, reason):
        with self.subTest(text=text[:300]), self.assertRaises(InvalidLine) as caught:
            read_paper(text)
        self.assertEqual((caught.exception.line, caught.exception.reason), (line, reason), text[:300])

    def check_line(self, line, reason, ahead="fact p(a)\nbook\nrule p(X) -> q(X)\n", behind="\nbook\nrule r(X) -> s(X)\n"):
        """This line is wrong behind these ones, and before others."""
        at = ahead.count("\n")
        self.check_wrong(ahead + line, at, reason)
        self.check_wrong(ahead + line + behind, at, reason)
        self.check_wrong("\n  \n" + ahead + "   " + line + "  " + behind, at + 2, reason)


class TestPaperText(PaperTest):
    def test_the_example(self):
        self.assertEqual(paper_text(facts("p(a)"), [rules("p(X) -> q(X)")]), "fact p(a)\nbook\nrule p(X) -> q(X)\n")

    def test_ordinary(self):
        store = facts("p(b, f(a, g(c)))", "p(a)", "p(b, f(a, g(c)))", "a(z)")
        books = [rules("p(X, Y), r(a) -> q(f(X)), q(Y)", "p(X) -> q(X)"), (), rules("q(X) -> s(X, X)")]
        wanted = ("fact a(z)\nfact p(a)\nfact p(b, f(a, g(c)))\nbook\nrule p(X, Y), r(a) -> q(f(X)), q(Y)\nrule p(X) -> q(X)\n"
                  "book\nbook\nrule q(X) -> s(X, X)\n")
        self.assertEqual(unchanged(self, paper_text, store, books), wanted)
        self.assertEqual(paper_text(books=books, store=store), wanted)

    def test_empty(self):
        self.assertEqual(paper_text([], [()]), "book\n")
        self.assertEqual(paper_text([], [()] * 8), "book\n" * 8)

    def test_order_of_the_facts(self):
        store = facts("p(b)", "p(aa)", "p(a, b)", "p(a)", "p(f(a))", "p9(a)", "o(z)", "p(f)")
        lines = paper_text(store, [()]).split("\n")[:-2]
        self.assertEqual(lines, ["fact " + term_text(fact) for fact in sorted(store)])

    def test_errors_in_their_order(self):
        for books in ([(SMALL_RULE,)], None, []):
            check_raises(self, InvalidStore, BAD_STORES, lambda store, books=books: paper_text(store, books))
        for store in ([], facts("p(a)")):
            check_raises(self, InvalidRow, BAD_ROWS, lambda books, store=store: paper_text(store, books))


class TestReadPaper(PaperTest):
    def test_what_is_written_is_read_back(self):
        draw = random.Random(151)
        for _ in range(300):
            store = drawn_store(draw, 9)
            books = [drawn_book(draw, 3, deep=draw.choice([1, 3]), heads=3) for _ in range(draw.randint(1, 8))]
            text = paper_text(store, books)
            told = read_paper(text)
            self.assertEqual(told, (sorted(set(store)), books))
            self.assertIsInstance(told, tuple)
            self.assertEqual(paper_text(*told), text)
            self.assertEqual(read_paper(text=text[:-1]), told)
            check_store(told[0])
            for book in told[1]:
                check_book(book)

    def test_the_facts_in_any_order(self):
        self.assertEqual(read_paper("fact p(b)\nfact p(a)\nfact a(c)\nbook\n"), (facts("a(c)", "p(a)", "p(b)"), [()]))

    def test_blanks(self):
        wanted = (facts("p(a, f(b))"), [rules("p(X, Y) -> q(X)"), ()])
        for text in ("  fact p(a, f(b))\nbook \n rule p(X, Y) -> q(X)  \n   book   \n", "fact   p ( a,f( b ) )  \n\n\nbook\n   \nrule    p(X ,Y)->q( X )\nbook",
                     "\n\n fact p(a, f(b))\n  \nbook\nrule p(X, Y)->q(X)\n\nbook\n\n\n", "fact p(a, f(b)) \n      book\nrule  p  (  X,Y  )  ->  q (X)\nbook  "):
            self.assertEqual(read_paper(text), wanted)

    def test_drawn_blanks(self):
        draw = random.Random(152)
        for _ in range(200):
            store, books = drawn_store(draw, 5), [drawn_book(draw, 2, deep=3, heads=2) for _ in range(draw.randint(1, 4))]
            lines = paper_text(store, books).split("\n")[:-1]
            facts_first = [line for line in lines if line.startswith("fact")]
            draw.shuffle(facts_first)
            lines = facts_first + lines[len(facts_first):]
            text = ""
            for line in lines:
                text += "".join(draw.choice(["\n", "  \n", ""]) for _ in range(2))
                text += " " * draw.randint(0, 2) + line.replace(" ", " " * draw.randint(1, 3)) + " " * draw.randint(0, 2) + "\n"
            self.assertEqual(read_paper(text), (sorted(set(store)), books))
            self.assertEqual(read_paper(text.rstrip("\n ")), (sorted(set(store)), books))

    def test_facts_and_books_at_the_edges(self):
        deep, great = ("p", (chain(6),)), ("p", (full_term(30, ("a", ())),) * 4)
        self.assertEqual(read_paper(paper_text([deep, great], [()])), (sorted([deep, great]), [()]))
        for many in (29, 30):
            self.assertEqual(len(read_paper(paper_text(numbered_facts(many), [()]))[0]), many)
        for many in (7, 8):
            self.assertEqual(read_paper("book\n" * many), ([], [()] * many))
        for book in (book_of(24, 24), book_of(8, 24), book_of(23, 24)):
            self.assertEqual(read_paper(paper_text([], [book, book])), ([], [book, book]))

    def test_new_lists(self):
        first = read_paper(GOOD)
        first[0].append(3)
        first[1].clear()
        self.assertEqual(read_paper(GOOD), (facts("p(a)"), [rules("p(X) -> q(X)")]))
        self.assertIsNot(read_paper("book")[0], read_paper("book")[0])

    def test_slowest(self):
        brackets = "f(" * 199
        with within_seconds():
            self.check_wrong("\n" * 200 + "fact p(" + brackets + "a" + ")" * 200, 200, "fact")
        with within_seconds():
            self.check_wrong("book\nrule p(" + brackets + "a" + ")" * 200 + " -> q(a)", 1, "rule")
        with within_seconds():
            self.check_wrong("\n" * 19999, 20000, "book")
        with within_seconds():
            self.check_wrong(" " * 20000, 1, "book")
        with within_seconds():
            self.check_wrong("book\n" + "rule p(X)" + " " * 19900 + "q", 1, "rule")


class TestWrongLines(PaperTest):
    def test_no_text(self):
        for bad in (None, True, False, 0, 7, 10 ** 29, [], ["book"], (), ("book",), {}, {"book": 1}, [[]]):
            with self.assertRaises(InvalidLine) as caught:
                unchanged(self, read_paper, bad)
            self.assertEqual((caught.exception.line, caught.exception.reason), (0, "text"))

    def test_no_book_stands(self):
        for text, line in (("", 1), ("\n", 2), ("  ", 1), (" \n \n", 3), ("fact p(a)", 1), ("fact p(a)\n", 2), ("fact p(a)\n\nfact p(b)\n  ", 4)):
            self.check_wrong(text, line, "book")

    def test_line(self):
        for line in ("books", "Book", "facts p(a)", "rules p(X) -> q(X)", "p(a)", "fact\tp(b)", "rule\tp(X) -> q(X)", "\t", "\tbook", "book\t",
                     "book book", "book x", "book  -", "book\t ", "factp(a)", "rulep(X) -> q(X)", "-", "->", "fact(a)", "f act p(a)", "# rule", "book,"):
            self.check_line(line, "line")

    def test_fact_behind_a_book(self):
        for line in ("fact p(b)", "fact p(a)", "fact", "fact X", "fact p(b"):
            self.check_line(line, "line")
            self.check_line(line, "line", ahead="book\n")

    def test_rule_ahead_of_all_books(self):
        for line in ("rule p(X) -> q(X)", "rule", "rule p(X)", "rule p(X) -> q(Y)"):
            self.check_line(line, "line", ahead="fact p(a)\n")
            self.check_line(line, "line", ahead="")

    def test_fact(self):
        for line in ("fact", "fact p", "fact X", "fact p(X)", "fact p()", "fact p(a", "fact p(a))", "fact p(a,)", "fact p(a), p(b)", "fact p(a) -> q(a)",
                     "fact X(a)", "fact p(abcdefghi)", "fact abcdefghi(a)", "fact p(a, b, c, d, e)", "fact p(f(a, b, c, d, e))", "fact p(a)\t",
                     "fact \tp(a)", "fact p(a) x", "fact p(a);", "fact fact p(a)", "fact p(f(f(f(f(f(f(a)))))))", "fact p(f(X))", "fact " + text_of(("p", (full_term(31, ("a", ())),)))):
            self.check_line(line, "fact", ahead="fact p(b)\n")
            self.check_line(line, "fact", ahead="")

    def test_rule(self):
        for line in ("rule", "rule p(X)", "rule p(X) ->", "rule -> q(X)", "rule p(X) -> q(Y)", "rule p(X) - > q(X)", "rule p(X) -> q(X),", "rule X -> q(a)",
                     "rule p -> q(a)", "rule p(X) -> q", "rule p(a), p(a), p(a), p(a), p(a) -> q(a)", "rule p(a) -> q(a), q(a), q(a), q(a)", "rule p(X) -> q(X) -> r(X)",
                     "rule p(X) -> q(f(f(f(f(f(f(X)))))))", "rule p(X)\t-> q(X)", "rule p(ABCD) -> q(a)", "rule rule p(X) -> q(X)", "rule p(X) -> q(X) book",
                     "rule p(a, a, a, a, a) -> q(a)", "rule p(" + text_of(full_term(31)) + ") -> q(X)"):
            self.check_line(line, "rule")
            self.check_line(line, "rule", ahead="book\n")

    def test_twice(self):
        self.check_line("fact p(a)", "twice", ahead="fact p(a)\n")
        self.check_line("fact  p( a )", "twice", ahead="fact p(b)\nfact p(a)\nfact p(c)\n")
        self.check_line("fact p(n0)", "twice", ahead=paper_text(numbered_facts(30), [()])[:-5])
        self.check_line("fact p(f(a), b)", "twice", ahead="fact p(f(a), b)\n")

    def test_rules_may_stand_twice(self):
        self.assertEqual(read_paper("book\nrule p(X) -> q(X)\nrule p(X) -> q(X)\n"), ([], [rules("p(X) -> q(X)") * 2]))

    def test_many_facts(self):
        thirty = paper_text(numbered_facts(30), [()])[:-5]
        self.check_line("fact p(a)", "many", ahead=thirty)
        self.check_line("fact p(X)", "fact", ahead=thirty)
        self.check_line("rule p(X) -> q(X)", "line", ahead=thirty)

    def test_many_books(self):
        self.check_line("book", "many", ahead="book\n" * 8)
        self.check_line("book", "many", ahead="fact p(a)\n" + "book\nrule p(X) -> q(X)\n" * 8)
        self.check_line("book x", "line", ahead="book\n" * 8)
        self.check_line("fact p(a)", "line", ahead="book\n" * 8)

    def test_many_rules(self):
        for book, line in ((book_of(24, 24), "rule p(X) -> q(X)"), (book_of(8, 24), "rule p(X) -> q(X)"), (book_of(22, 22), "rule p(X) -> q(X), q(a), q(b)"),
                           (book_of(23, 23), "rule p(X) -> q(X), q(X)")):
            ahead = paper_text([], [book])
            self.check_line(line, "many", ahead=ahead)
            self.check_line("rule p(X)", "rule", ahead=ahead)
            self.check_line(line, "many", ahead="book\nrule p(X) -> q(X)\n" + ahead)
            self.assertEqual(len(read_paper(ahead + "book\n" + line)[1]), 2)
        self.assertEqual(len(read_paper(paper_text([], [book_of(22, 22)]) + "rule p(X) -> q(X), q(X)")[1][0]), 23)

    def test_the_first_wrong_line(self):
        self.check_wrong("fact p(a)\nfact p(a)\nbook x\nrule", 1, "twice")
        self.check_wrong("fact p(a)\nbook\n\nrule p(X)\nfact p(b)\nbooks", 3, "rule")
        self.check_wrong("rule p(X) -> q(X)\nfact p\n", 0, "line")
        self.check_wrong("fact p\nrule p\nbook", 0, "fact")
        self.check_wrong("fact p(a)\n\n \nfoo", 3, "line")

    def test_drawn_wrong_lines(self):
        """One line of a good paper is made wrong, perhaps a later one, too."""
        draw = random.Random(153)
        bad = {"fact": ["fact p", "fact p(X)", "fact p(a"], "line": ["x", "book y", "fac p(a)"], "rule": ["rule p(X) -> q(Y)", "rule"]}
        for _ in range(300):
            store, books = drawn_store(draw, 5), [drawn_book(draw, 3) for _ in range(draw.randint(1, 4))]
            lines = paper_text(store, books).split("\n")[:-1]
            at = draw.randrange(len(lines))
            ahead = "book" in lines[:at]
            reason = draw.choice(["line", "rule" if ahead else "fact"])
            lines[at] = draw.choice(bad[reason])
            if draw.random() < 0.5:
                lines.insert(draw.randint(at + 1, len(lines)), draw.choice(["x", "fact q", "rule r"]))
            self.check_wrong("\n".join(lines), at, reason)

    def test_texts_of_rules(self):
        for text in ("p(X), p(Y) -> q(X, Y)", "p(f(X, a)) -> q(g(g(X)))"):
            self.assertEqual(rule_text(read_paper(f"book\nrule {text}")[1][0][0]), text)


if __name__ == "__main__":
    unittest.main()
