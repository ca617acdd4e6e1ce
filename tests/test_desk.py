import random
import unittest

from fillbooks.desk import Desk, try_all
from fillbooks.errors import (FactStands, FillError, InvalidBook, InvalidFact, InvalidNumber, InvalidRow, InvalidStore, NoSuchFact,
                              NothingToRedo, NothingToUndo, TooMany, UnknownDeed)
from fillbooks.joining import fill_row
from helpers import (A, B, BAD_BOOKS, BAD_FACTS, BAD_ROWS, BAD_STORES, C, SMALL_RULE, check_raises, drawn_book, drawn_store, facts,
                     nested, numbered_facts, rules, unchanged, within_seconds)

SMALL = (SMALL_RULE,)
BAD_NUMBERS = [None, True, False, -1, 2, 3, 10 ** 29, -10 ** 29, "", "0", "1", (0,), [0], {0: 0}, ()]
CUBES = rules("p(X), p(Y), p(Z) -> q(X)")


def seen(desk):
    """All that can be seen of a desk; what can be taken back and done again is told by doing so."""
    states, back = [], 0
    while True:
        states.append((desk.store, desk.books))
        try:
            desk.undo()
            back += 1
        except NothingToUndo:
            break
    for _ in range(back):
        desk.redo()
    later = []
    while True:
        try:
            desk.redo()
            later.append((desk.store, desk.books))
        except NothingToRedo:
            break
    for _ in later:
        desk.undo()
    return states, later


class Model:
    """A plain model of a desk: the list of all states, and which of them it is."""

    def __init__(self, store, books):
        self.states, self.at = [(sorted(set(store)), list(books))], 0

    def state(self):
        return self.states[self.at]

    def go(self, store, books):
        self.states = self.states[:self.at + 1] + [(store, books)]
        self.at += 1

    def put(self, fact):
        store, books = self.state()
        if fact in store:
            raise FactStands()
        if len(store) == 30:
            raise TooMany()
        self.go(sorted(store + [fact]), books)

    def strike(self, fact):
        store, books = self.state()
        if fact not in store:
            raise NoSuchFact()
        self.go([other for other in store if other != fact], books)

    def exchange(self, number, book):
        store, books = self.state()
        if not 0 <= number < len(books):
            raise InvalidNumber()
        self.go(store, books[:number] + [book] + books[number + 1:])

    def undo(self):
        if self.at == 0:
            raise NothingToUndo()
        self.at -= 1

    def redo(self):
        if self.at + 1 == len(self.states):
            raise NothingToRedo()
        self.at += 1


def outcome(call, *arguments):
    """The class of the error of a call; None if it returns None."""
    try:
        return call(*arguments)
    except FillError as error:
        return type(error)


def drawn_deed(draw, known):
    word = draw.choice(["put", "put", "put", "strike", "strike", "exchange", "undo", "undo", "redo", "redo"])
    if word in ("put", "strike"):
        return (word, draw.choice(known))
    if word == "exchange":
        return (word, draw.choice([-1, 0, 0, 1, 1, 2]), draw.choice([SMALL, (), rules("p(X) -> r(X)")]))
    return (word,)


def do(desk, deed):
    return outcome(getattr(desk, deed[0]), *deed[1:])


class TestDesk(unittest.TestCase):
    def test_the_example(self):
        desk = Desk([], [rules("p(X) -> q(X, f(X)), r(X)")])
        self.assertIsNone(try_all(desk, [("put", ("p", (A,)))]))
        self.assertEqual([len(desk.told()), desk.sure(), len(desk)], [2, facts("r(a)"), 1])

    def test_what_stands_on_it(self):
        store = facts("p(b)", "p(a)", "p(b)", "a(z)")
        desk = unchanged(self, Desk, store, [SMALL, ()])
        self.assertEqual(desk.store, facts("a(z)", "p(a)", "p(b)"))
        self.assertEqual(desk.books, [SMALL, ()])
        self.assertEqual(len(desk), 3)
        desk = Desk(books=[()], store=[])
        self.assertEqual((desk.store, desk.books, len(desk)), ([], [()], 0))
        self.assertEqual(len(Desk(facts("p(a)") * 30, [()])), 1)

    def test_put_and_strike(self):
        desk = Desk(facts("p(b)"), [SMALL])
        self.assertIsNone(unchanged(self, desk.put, ("p", (A,))))
        self.assertIsNone(desk.put(fact=("a", (C,))))
        self.assertEqual(desk.store, facts("a(c)", "p(a)", "p(b)"))
        self.assertIsNone(unchanged(self, desk.strike, ("p", (B,))))
        self.assertIsNone(desk.strike(fact=("p", (A,))))
        self.assertEqual(desk.store, facts("a(c)"))
        self.assertRaises(FactStands, desk.put, ("a", (C,)))
        self.assertRaises(NoSuchFact, desk.strike, ("p", (A,)))
        self.assertRaises(NoSuchFact, desk.strike, ("a", (C, C)))
        self.assertEqual(desk.store, facts("a(c)"))

    def test_what_stood_twice_is_struck(self):
        desk = Desk(facts("p(b)", "p(a)", "p(b)"), [SMALL])
        desk.strike(("p", (B,)))
        self.assertEqual(desk.store, facts("p(a)"))
        self.assertRaises(NoSuchFact, desk.strike, ("p", (B,)))

    def test_exchange(self):
        desk = Desk([], [SMALL, (), SMALL])
        other = rules("p(X) -> z(X)")
        self.assertIsNone(unchanged(self, desk.exchange, 1, other))
        self.assertEqual(desk.books, [SMALL, other, SMALL])
        self.assertIsNone(desk.exchange(book=(), number=0))
        self.assertIsNone(desk.exchange(2, other))
        self.assertEqual(desk.books, [(), other, other])
        for _ in range(3):
            desk.undo()
        self.assertEqual(desk.books, [SMALL, (), SMALL])

    def test_undo_and_redo(self):
        desk = Desk([], [SMALL])
        self.assertRaises(NothingToUndo, desk.undo)
        self.assertRaises(NothingToRedo, desk.redo)
        desk.put(("p", (A,)))
        desk.exchange(0, ())
        desk.strike(("p", (A,)))
        self.assertRaises(NothingToRedo, desk.redo)
        self.assertIsNone(desk.undo())
        self.assertEqual((desk.store, desk.books), (facts("p(a)"), [()]))
        desk.undo()
        self.assertEqual((desk.store, desk.books), (facts("p(a)"), [SMALL]))
        desk.undo()
        self.assertEqual((desk.store, desk.books), ([], [SMALL]))
        self.assertRaises(NothingToUndo, desk.undo)
        self.assertIsNone(desk.redo())
        self.assertEqual((desk.store, desk.books), (facts("p(a)"), [SMALL]))
        desk.put(("p", (B,)))
        self.assertRaises(NothingToRedo, desk.redo)
        desk.undo()
        desk.redo()
        self.assertEqual(desk.store, facts("p(a)", "p(b)"))

    def test_each_deed_ends_what_can_be_done_again(self):
        for deed in (("put", ("r", (A,))), ("strike", ("p", (A,))), ("exchange", 0, SMALL)):
            desk = Desk(facts("p(a)"), [SMALL])
            desk.put(("p", (B,)))
            desk.undo()
            self.assertIsNone(do(desk, deed))
            self.assertRaises(NothingToRedo, desk.redo)

    def test_a_refused_deed_changes_nothing(self):
        desk = Desk(facts("p(a)"), [SMALL, ()])
        desk.put(("p", (B,)))
        desk.put(("p", (C,)))
        desk.exchange(1, SMALL)
        desk.undo()
        before = seen(desk)
        refused = [(("put", ("p", (A,))), FactStands), (("put", ("p", ("X",))), InvalidFact), (("strike", ("z", (A,))), NoSuchFact),
                   (("strike", None), InvalidFact), (("exchange", 2, SMALL), InvalidNumber), (("exchange", 0, [SMALL]), InvalidBook)]
        for deed, error in refused:
            self.assertEqual(do(desk, deed), error)
            self.assertEqual(seen(desk), before)
        desk.redo()
        self.assertRaises(NothingToRedo, desk.redo)
        self.assertEqual(desk.books, [SMALL, SMALL])
        for _ in range(3):
            desk.undo()
        before = seen(desk)
        self.assertRaises(NothingToUndo, desk.undo)
        self.assertEqual(seen(desk), before)

    def test_numbers_of_facts(self):
        more = [("p", ((f"m{k}", ()),)) for k in range(3)]
        desk = Desk(numbered_facts(29), [SMALL])
        desk.put(more[0])
        self.assertEqual(len(desk), 30)
        before = seen(desk)
        self.assertRaises(TooMany, desk.put, more[1])
        self.assertRaises(FactStands, desk.put, more[0])
        self.assertRaises(InvalidFact, desk.put, ("p", ("X",)))
        self.assertEqual(seen(desk), before)
        desk.strike(numbered_facts(1)[0])
        desk.put(more[1])
        self.assertEqual(len(desk), 30)
        self.assertRaises(TooMany, Desk(numbered_facts(30), [SMALL]).put, more[0])
        self.assertIsNone(Desk(numbered_facts(15) * 2, [SMALL]).put(more[0]))

    def test_beside_a_plain_model(self):
        draw = random.Random(161)
        refused = done = 0
        for _ in range(60):
            store, books = drawn_store(draw, 6), [SMALL, ()]
            known = drawn_store(draw, 4) + store + facts("p(a)", "r(b)")
            desk, model = Desk(store, books), Model(store, books)
            for _ in range(60):
                deed = drawn_deed(draw, known)
                told = do(desk, deed)
                self.assertEqual(told, do(model, deed))
                self.assertEqual((desk.store, desk.books), model.state())
                self.assertEqual(len(desk), len(model.state()[0]))
                refused += told is not None
                done += told is None
            states, later = seen(desk)
            self.assertEqual(states[::-1] + later, model.states)
        self.assertGreater(min(refused, done), 500)

    def test_in(self):
        desk = Desk(facts("p(a)", "r(f(b), a)"), [SMALL])
        self.assertIs(facts("p(a)")[0] in desk, True)
        self.assertIs(facts("r(f(b), a)")[0] in desk, True)
        for fact in facts("p(b)", "p(a, a)", "r(f(a), a)"):
            self.assertIs(fact in desk, False)
        for value in [None, True, 0, "", "p(a)", "p", [], ["p", (A,)], ["p", [A]], {}, (), ("p",), ("p", [A]), ("p", A), ("p", ("X",)), desk,
                      facts("p(a)"), nested(50, lambda thing: [thing]), {"p": A}, ("p", (A,), ())]:
            self.assertIs(value in desk, False)

    def test_what_is_handed_in_may_be_changed(self):
        store, books = facts("p(a)", "p(b)"), [SMALL, ()]
        desk = Desk(store, books)
        store.append(("p", (C,)))
        store.pop(0)
        books.clear()
        self.assertEqual((desk.store, desk.books), (facts("p(a)", "p(b)"), [SMALL, ()]))
        deeds = [("put", ("p", (C,)))]
        try_all(desk, deeds)
        deeds.clear()
        self.assertEqual(desk.store, facts("p(a)", "p(b)", "p(c)"))

    def test_what_is_told_may_be_changed(self):
        desk = Desk(facts("p(a)"), [rules("p(X) -> p(X)")])
        for told in (desk.store, desk.books, desk.told(), desk.sure()):
            told.append(3)
        self.assertEqual((desk.store, desk.books, desk.told(), desk.sure()), (facts("p(a)"), [rules("p(X) -> p(X)")], facts("p(a)"), facts("p(a)")))
        desk.put(("p", (B,)))
        desk.undo()
        desk.store.clear()
        self.assertEqual(desk.store, facts("p(a)"))
        self.assertIsNot(desk.store, desk.store)
        self.assertIsNot(desk.books, desk.books)

    def test_store_and_books_are_only_read(self):
        desk = Desk([], [SMALL])
        for name in ("store", "books"):
            with self.assertRaises(AttributeError):
                setattr(desk, name, [])

    def test_a_desk_by_itself(self):
        one, other = (Desk(facts("p(a)"), [SMALL]) for _ in range(2))
        one.put(("p", (B,)))
        one.exchange(0, ())
        self.assertEqual((other.store, other.books), (facts("p(a)"), [SMALL]))
        self.assertRaises(NothingToUndo, other.undo)


class TestTold(unittest.TestCase):
    def test_told_and_sure(self):
        draw = random.Random(162)
        for _ in range(150):
            store = drawn_store(draw, 5)
            books = [drawn_book(draw, 2, deep=2, heads=2, most=2, told=(("p", 2), ("p", 1), ("r", 1))) for _ in range(draw.randint(1, 3))]
            desk = Desk(store, books)
            self.assertEqual(desk.told(), fill_row(books, store))
            self.assertEqual(desk.sure(), [fact for fact in fill_row(books, store) if not any(value[1] for value in fact[1])])
            self.assertEqual((desk.store, desk.books), (sorted(set(store)), books))

    def test_too_many(self):
        """And again when a book is exchanged, and when a fact is struck."""
        desk = Desk(numbered_facts(10), [CUBES])
        self.assertEqual(len(desk.told()), 10)
        desk.put(("p", (A,)))
        before = seen(desk)
        for _ in range(2):
            self.assertRaises(TooMany, desk.told)
            self.assertRaises(TooMany, desk.sure)
        self.assertEqual(seen(desk), before)
        desk.exchange(0, SMALL)
        self.assertEqual(len(desk.told()), 11)
        self.assertEqual(len(desk.sure()), 11)
        desk.undo()
        self.assertRaises(TooMany, desk.sure)
        desk.strike(("p", (A,)))
        self.assertEqual(len(desk.sure()), 10)

    def test_too_many_names(self):
        four = rules("p(X) -> p(f(X, X, X, X))")
        desk = Desk(facts("p(a)"), [four, four, four])
        self.assertEqual(len(desk.told()), 1)
        self.assertEqual(desk.sure(), [])
        desk = Desk(facts("p(a)"), [four] * 4)
        self.assertRaises(TooMany, desk.told)
        self.assertRaises(TooMany, desk.sure)


class Unheard(Exception):
    pass


class TestTrial(unittest.TestCase):
    def desk(self):
        """A desk with deeds to take back and to do again."""
        desk = Desk(facts("p(a)"), [SMALL, ()])
        desk.put(("p", (B,)))
        desk.exchange(1, SMALL)
        desk.put(("p", (C,)))
        desk.undo()
        return desk

    def test_without_an_error(self):
        desk = self.desk()
        with desk.trial() as same:
            self.assertIs(same, desk)
            desk.put(("r", (A,)))
            self.assertRaises(FactStands, same.put, ("r", (A,)))
        self.assertEqual(desk.store, facts("p(a)", "p(b)", "r(a)"))
        self.assertRaises(NothingToRedo, desk.redo)
        for _ in range(3):
            desk.undo()
        self.assertRaises(NothingToUndo, desk.undo)

    def test_errors_of_any_kind(self):
        def refused(desk):
            desk.strike(("z", (A,)))

        def unheard(desk):
            raise Unheard("why")

        def stopped(desk):
            raise KeyboardInterrupt()

        def too_many(desk):
            raise TooMany()

        for call, error in ((refused, NoSuchFact), (unheard, Unheard), (stopped, KeyboardInterrupt), (too_many, TooMany)):
            desk = self.desk()
            before = seen(desk)
            with self.assertRaises(error):
                with desk.trial():
                    desk.put(("r", (A,)))
                    desk.undo()
                    desk.undo()
                    desk.exchange(0, ())
                    desk.strike(("p", (A,)))
                    call(desk)
            self.assertEqual(seen(desk), before)

    def test_deeds_taken_back_in_it(self):
        """Also those that were done ahead of it."""
        desk = self.desk()
        before = seen(desk)
        with self.assertRaises(Unheard):
            with desk.trial():
                desk.undo()
                desk.undo()
                raise Unheard()
        self.assertEqual(seen(desk), before)
        with self.assertRaises(NothingToRedo):
            with desk.trial():
                desk.redo()
                desk.redo()
        self.assertEqual(seen(desk), before)

    def test_the_error_goes_on(self):
        desk, error = self.desk(), Unheard("this one")
        with self.assertRaises(Unheard) as caught:
            with desk.trial():
                raise error
        self.assertIs(caught.exception, error)

    def test_made_before_deeds_and_entered_behind_them(self):
        desk = self.desk()
        trial = desk.trial()
        desk.put(("r", (A,)))
        desk.put(("r", (B,)))
        desk.undo()
        before = seen(desk)
        with self.assertRaises(Unheard):
            with trial:
                desk.put(("r", (C,)))
                raise Unheard()
        self.assertEqual(seen(desk), before)

    def test_entered_again(self):
        desk = self.desk()
        trial = desk.trial()
        for error in (Unheard, None, Unheard, None, Unheard):
            before = seen(desk)
            try:
                with trial as same:
                    same.put(("r", ((f"n{len(before[0])}", ()),)))
                    inside = seen(desk)
                    if error:
                        raise error()
                self.assertEqual(seen(desk), inside)
            except Unheard:
                self.assertEqual(seen(desk), before)
            desk.put(("s", ((f"n{len(desk)}", ()),)))

    def test_what_is_done_behind_a_trial_does_not_reach_into_it(self):
        """After an error the desk goes on by itself; the trial, entered again, takes it as it is then."""
        desk = self.desk()
        trial = desk.trial()
        with self.assertRaises(Unheard):
            with trial:
                raise Unheard()
        desk.undo()
        desk.put(("s", (A,)))
        before = seen(desk)
        with self.assertRaises(Unheard):
            with trial:
                desk.undo()
                desk.put(("s", (B,)))
                raise Unheard()
        self.assertEqual(seen(desk), before)

    def test_trials_in_one_another(self):
        desk = self.desk()
        before = seen(desk)
        with self.assertRaises(Unheard):
            with desk.trial():
                desk.put(("r", (A,)))
                inside = seen(desk)
                with self.assertRaises(NoSuchFact):
                    with desk.trial():
                        desk.put(("r", (B,)))
                        desk.strike(("z", (A,)))
                self.assertEqual(seen(desk), inside)
                with desk.trial():
                    desk.put(("r", (C,)))
                raise Unheard()
        self.assertEqual(seen(desk), before)

    def test_left_in_other_ways(self):
        desk = self.desk()

        def leave():
            with desk.trial() as same:
                same.put(("r", (A,)))
                return len(same)
        self.assertEqual(leave(), 3)
        self.assertEqual(len(desk), 3)
        for _ in range(1):
            with desk.trial():
                desk.put(("r", (B,)))
                break
        self.assertEqual(len(desk), 4)


class TestTryAll(unittest.TestCase):
    def test_each_form(self):
        desk = Desk(facts("p(a)"), [SMALL, ()])
        deeds = [("put", ("p", (B,))), ("strike", ("p", (A,))), ("exchange", 1, SMALL), ("undo",), ("undo",), ("redo",)]
        self.assertIsNone(unchanged(self, lambda some: try_all(desk, some), deeds))
        self.assertEqual((desk.store, desk.books), (facts("p(b)"), [SMALL, ()]))
        self.assertIsNone(try_all(deeds=[("redo",)], desk=desk))
        self.assertEqual(desk.books, [SMALL, SMALL])
        for _ in range(3):
            desk.undo()
        self.assertRaises(NothingToUndo, desk.undo)
        self.assertIsNone(try_all(desk, []))

    def test_wrong_forms(self):
        fact = ("p", (B,))
        wrong = [None, True, 0, 1, "", "undo", "put", [], {}, (), ["put", fact], ["undo"], ["exchange", 0, SMALL], ("put",), ("put", fact, fact), ("strike",),
                 ("strike", fact, 1), ("exchange",), ("exchange", 0), ("exchange", 0, SMALL, 1), ("undo", 1), ("undo", None), ("redo", fact), ("Put", fact),
                 ("put ", fact), ("PUT", fact), ("", fact), (None,), (True,), (1,), (0, fact), (["undo"],), (("undo",),), ({},), ("take", fact), ("trial",),
                 ("told",), ("sure",), ({"undo": 1},), ("undo", ), ("len",), (["put"], fact), nested(50, lambda thing: (thing,))]
        wrong.remove(("undo",))
        for bad in wrong:
            for deeds in ([bad], [("put", fact), bad], [("put", fact), ("undo",), bad, ("redo",)], [bad, ("strike", ("z", (A,)))]):
                desk = Desk(facts("p(a)"), [SMALL, ()])
                desk.put(("r", (A,)))
                desk.undo()
                before = seen(desk)
                self.assertRaises(UnknownDeed, unchanged, self, lambda some: try_all(desk, some), deeds)
                self.assertEqual(seen(desk), before)

    def test_what_else_stands_in_a_deed_is_looked_at_by_it(self):
        for deed, error in ((("put", None), InvalidFact), (("put", ["p", [A]]), InvalidFact), (("strike", ("p", ("X",))), InvalidFact), (("strike", {}), InvalidFact),
                            (("exchange", True, SMALL), InvalidNumber), (("exchange", 7, None), InvalidNumber), (("exchange", "0", SMALL), InvalidNumber),
                            (("exchange", 0, None), InvalidBook), (("exchange", 1, [SMALL]), InvalidBook)):
            self.assertRaises(error, try_all, Desk([], [SMALL, ()]), [deed])

    def test_refused_in_the_middle(self):
        desk = Desk(facts("p(a)"), [SMALL])
        desk.put(("r", (A,)))
        desk.put(("r", (B,)))
        desk.undo()
        before = seen(desk)
        good = [("put", ("p", (B,))), ("strike", ("p", (A,))), ("undo",), ("undo",), ("undo",), ("exchange", 0, ())]
        for bad, error in ((("put", ("p", (A,))), FactStands), (("strike", ("p", (C,))), NoSuchFact), (("exchange", 1, ()), InvalidNumber),
                           (("redo",), NothingToRedo), (("put", ("p", ("X",))), InvalidFact), (("exchange", 0, None), InvalidBook)):
            self.assertRaises(error, try_all, desk, good + [bad] + good)
            self.assertEqual(seen(desk), before)
        self.assertRaises(NothingToUndo, try_all, desk, [("undo",)] * 9)
        self.assertEqual(seen(desk), before)
        self.assertRaises(TooMany, try_all, desk, [("put", fact) for fact in numbered_facts(40)])
        self.assertEqual(seen(desk), before)

    def test_an_unknown_deed_behind_a_refused_one(self):
        """It comes to the entries one behind the other."""
        desk = Desk(facts("p(a)"), [SMALL])
        self.assertRaises(FactStands, try_all, desk, [("put", ("p", (A,))), ("what",)])
        self.assertRaises(UnknownDeed, try_all, desk, [("what",), ("put", ("p", (A,)))])

    def test_beside_a_plain_model(self):
        draw = random.Random(163)
        refused = done = 0
        for _ in range(300):
            store, books = drawn_store(draw, 4), [SMALL, ()]
            known = drawn_store(draw, 4) + store + facts("p(a)", "r(b)")
            desk, model = Desk(store, books), Model(store, books)
            for _ in range(3):
                deeds = [drawn_deed(draw, known) for _ in range(draw.randint(0, 4))]
                told, (states, at) = outcome(try_all, desk, deeds), (model.states, model.at)
                wanted = next((error for error in (do(model, deed) for deed in deeds) if error), None)
                if wanted:
                    model.states, model.at = states, at
                self.assertEqual(told, wanted)
                self.assertEqual((desk.store, desk.books), model.state())
                refused += wanted is not None
                done += wanted is None
            states, later = seen(desk)
            self.assertEqual(states[::-1] + later, model.states)
        self.assertGreater(min(refused, done), 100)

    def test_many_deeds(self):
        desk = Desk([], [SMALL])
        with within_seconds():
            for _ in range(30):
                try_all(desk, [("put", ("p", (A,))), ("strike", ("p", (A,)))] * 100)
            for _ in range(6000):
                desk.undo()
        self.assertRaises(NothingToUndo, desk.undo)
        with within_seconds():
            for _ in range(6000):
                desk.redo()


class TestInvalid(unittest.TestCase):
    def test_desk(self):
        for books in ([SMALL], None, []):
            check_raises(self, InvalidStore, BAD_STORES, lambda store, books=books: Desk(store, books))
        for store in ([], facts("p(a)")):
            check_raises(self, InvalidRow, BAD_ROWS, lambda books, store=store: Desk(store, books))

    def test_no_fact(self):
        for desk in (Desk(facts("p(a)"), [SMALL]), Desk(numbered_facts(30), [SMALL])):
            check_raises(self, InvalidFact, BAD_FACTS, desk.put)
            check_raises(self, InvalidFact, BAD_FACTS, desk.strike)
            self.assertRaises(NothingToUndo, desk.undo)

    def test_no_number(self):
        desk = Desk([], [SMALL, ()])
        for book in (SMALL, None, [SMALL]):
            check_raises(self, InvalidNumber, BAD_NUMBERS, lambda number, book=book: desk.exchange(number, book))
        for number in (0, 1):
            check_raises(self, InvalidBook, BAD_BOOKS[::2], lambda book, number=number: desk.exchange(number, book))
        for many in (1, 8):
            desk = Desk([], [SMALL] * many)
            self.assertRaises(InvalidNumber, desk.exchange, many, SMALL)
            self.assertIsNone(desk.exchange(many - 1, ()))
        desk.undo()
        self.assertRaises(NothingToUndo, desk.undo)


if __name__ == "__main__":
    unittest.main()
