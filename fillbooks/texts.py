"""The texts of terms, rules and books, and what is read of texts."""

from fillbooks.books import check_book, check_rule, is_rule
from fillbooks.errors import InvalidRule, InvalidTerm, InvalidText
from fillbooks.reading import Reader
from fillbooks.terms import check_term, is_term


def term_text(term):
    """Return the text of a term."""
    check_term(term)
    return text_of(term)


def read_term(text):
    """Return the term of a text; raise InvalidText with the place of the first wrong character."""
    term = read_any_term(text)
    if not is_term(term):
        raise InvalidTerm("what this text tells is not a term")
    return term


def rule_text(rule):
    """Return the text of a rule."""
    check_rule(rule)
    return text_of_rule(rule)


def read_rule(text):
    """Return the rule of a text; raise InvalidText with the place of the first wrong character."""
    reader = _reader(text)
    body = reader.atoms()
    reader.take("-")
    reader.take(">")
    heads = reader.atoms()
    reader.end()
    if not is_rule((body, heads)):
        raise InvalidRule("what this text tells is not a rule")
    return body, heads


def book_text(book):
    """Return the texts of the rules of a book, each with a line end."""
    check_book(book)
    return "".join([text_of_rule(rule) + "\n" for rule in book])


def read_any_term(text):
    """Return what read_term returns, but whatever its numbers are; so it may be an atom, too."""
    reader = _reader(text)
    term = reader.term()
    reader.end()
    return term


def text_of(term):
    """Return what term_text returns, for any term, also for an atom, which has the form of one.

    Any string is a variable here.
    """
    if isinstance(term, str):
        return term
    name, parts = term
    return name + "(" + _listed(parts) + ")" if parts else name


def text_of_rule(rule):
    """Return what rule_text returns, without a look at what is passed."""
    body, heads = rule
    return _listed(body) + " -> " + _listed(heads)


def _listed(terms):
    return ", ".join([text_of(term) for term in terms])


def _reader(text):
    if not isinstance(text, str):
        raise InvalidText(0)
    return Reader(text)
