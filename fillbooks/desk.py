"""A desk with a store and a row of books, on which deeds are done, taken back, and tried."""

from fillbooks.books import (MOST_FACTS, check_book, check_fact, check_row, check_store, unlike_facts,
                             without_made_things)
from fillbooks.errors import (FactStands, InvalidNumber, NoSuchFact, NothingToRedo, NothingToUndo, TooMany,
                              UnknownDeed)
from fillbooks.joining import fill_row

# How many parts a deed has, by its word.
FORMS = {"put": 2, "strike": 2, "exchange": 3, "undo": 1, "redo": 1}


class Desk:
    """A store and a row of books.

    What is on the desk is a tuple of the ascending tuple of the facts and the tuple of the books;
    what was on it ahead of each deed, and of each one that was taken back, is kept.
    """

    def __init__(self, store, books):
        check_store(store)
        check_row(books)
        self.now = tuple(unlike_facts(store)), tuple(books)
        self.past = []
        self.future = []

    @property
    def store(self):
        """A new ascending list of the unlike facts."""
        return list(self.now[0])

    @property
    def books(self):
        """A new list of the books."""
        return list(self.now[1])

    def put(self, fact):
        """Put a fact into the store."""
        check_fact(fact)
        facts, books = self.now
        if fact in facts:
            raise FactStands("this fact is in the store")
        if len(facts) == MOST_FACTS:
            raise TooMany("the store is full")
        self._do(tuple(sorted(facts + (fact,))), books)

    def strike(self, fact):
        """Strike a fact from the store."""
        check_fact(fact)
        facts, books = self.now
        if fact not in facts:
            raise NoSuchFact("this fact is not in the store")
        self._do(tuple([other for other in facts if other != fact]), books)

    def exchange(self, number, book):
        """Put a book in the place of the one with this number."""
        facts, books = self.now
        if not isinstance(number, int) or isinstance(number, bool) or not 0 <= number < len(books):
            raise InvalidNumber("this is not the number of a book in the row")
        check_book(book)
        self._do(facts, books[:number] + (book,) + books[number + 1:])

    def undo(self):
        """Take back the last deed that was not taken back."""
        if not self.past:
            raise NothingToUndo("there is no deed to take back")
        self.future.append(self.now)
        self.now = self.past.pop()

    def redo(self):
        """Do the deed again that was taken back last."""
        if not self.future:
            raise NothingToRedo("there is no deed to do again")
        self.past.append(self.now)
        self.now = self.future.pop()

    def told(self):
        """Return what the row tells of the store."""
        return fill_row(self.books, self.store)

    def sure(self):
        """Return the facts of what the row tells in which nothing made stands."""
        return without_made_things(self.told())

    def trial(self):
        """Return a trial, for `with`: if an error leaves the block, the desk is as it was when it was entered."""
        return Trial(self)

    def __len__(self):
        return len(self.now[0])

    def __contains__(self, fact):
        return fact in self.now[0]

    def _do(self, facts, books):
        self.past.append(self.now)
        self.future = []
        self.now = facts, books


class Trial:
    """A desk, and what was on it and what could be taken back and done again when the trial was entered."""

    def __init__(self, desk):
        self.desk = desk
        self.now = desk.now
        self.past = []
        self.future = []

    def __enter__(self):
        self.now = self.desk.now
        self.past = list(self.desk.past)
        self.future = list(self.desk.future)
        return self.desk

    def __exit__(self, kind, value, trace):
        desk = self.desk
        if kind is not None:
            desk.now = self.now
            desk.past = self.past
            desk.future = self.future
        return False


def try_all(desk, deeds):
    """Do what the deeds tell, one behind the other; if one is refused, none of them is done."""
    with desk.trial():
        for deed in deeds:
            _try_one(desk, deed)


def _try_one(desk, deed):
    if not _has_a_form(deed):
        raise UnknownDeed("this is not a deed")
    word = deed[0]
    if word == "put":
        desk.put(deed[1])
    elif word == "strike":
        desk.strike(deed[1])
    elif word == "exchange":
        desk.exchange(deed[1], deed[2])
    elif word == "undo":
        desk.undo()
    else:
        desk.redo()


def _has_a_form(deed):
    if not isinstance(deed, tuple) or not deed or not isinstance(deed[0], str):
        return False
    return FORMS.get(deed[0], 0) == len(deed)
