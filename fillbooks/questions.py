"""Questions about what a row of books tells, and what a book tells surely."""

from fillbooks.books import check_book, check_row, is_book, made_things, one_headed, without_made_things
from fillbooks.comparing import never_more
from fillbooks.errors import InvalidQuestion
from fillbooks.filling import fill
from fillbooks.forms import formed
from fillbooks.joining import row_form
from fillbooks.numbering import kind_of


def asked(question, books):
    """Return the question about a store that tells what the question tells of what the row makes of the store."""
    if not _is_question(question):
        raise InvalidQuestion("this is not a question")
    check_row(books)
    return row_form(books + [question])


def sure(book, store):
    """Return the ascending list of the facts of the filling in which nothing made stands."""
    return without_made_things(fill(book, store))


def sure_form(book):
    """Return the least form of the book without made things that tells of constants what `sure` tells of them."""
    check_book(book)
    return formed(_sure_rules(book))


def never_surer(one, other):
    """Tell whether for all stores of constants sure tells nothing with `one` that it does not tell with `other`."""
    check_book(one)
    check_book(other)
    return never_more(_sure_rules(one), _sure_rules(other))


def _is_question(value):
    """Tell whether the value is a book with rules in which all heads have one relation and one number of terms."""
    if not is_book(value) or not value:
        return False
    kinds = [kind_of(head) for _, heads in value for head in heads]
    return all([kind == kinds[0] for kind in kinds])


def _sure_rules(book):
    """Return the book of the rules of one head each in which nothing made stands: the others tell nothing surely."""
    return tuple([(body, heads) for body, heads in one_headed(book) if not made_things(body + heads)])
