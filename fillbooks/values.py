"""Books as values."""

from fillbooks.books import check_book
from fillbooks.comparing import alike, never_more
from fillbooks.errors import InvalidBook
from fillbooks.filling import fill
from fillbooks.forms import least_form
from fillbooks.joining import joined


class Book:
    """A book that does not change; two of them are equal if they fill all stores alike."""

    def __init__(self, rules):
        check_book(rules)
        self._rules = rules

    @property
    def rules(self):
        """The tuple of the rules."""
        return self._rules

    def within(self, other):
        """Tell whether this book never tells more than the other one."""
        _check_is_book(other)
        return never_more(self._rules, other.rules)

    def least(self):
        """Return the Book of the least form."""
        return Book(least_form(self._rules))

    def __call__(self, store):
        return fill(self._rules, store)

    def __rshift__(self, other):
        _check_is_book(other)
        return Book(joined(self._rules, other.rules))

    def __or__(self, other):
        _check_is_book(other)
        return Book(self._rules + other.rules)

    def __eq__(self, other):
        return isinstance(other, Book) and alike(self._rules, other.rules)

    def __len__(self):
        return len(self._rules)

    def __iter__(self):
        return iter(self._rules)

    def __contains__(self, rule):
        return rule in self._rules


def _check_is_book(value):
    if not isinstance(value, Book):
        raise InvalidBook("this is not a Book")
