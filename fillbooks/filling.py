"""What a book tells of a store, and the ways to lay a rule into one."""

from fillbooks.books import check_book, check_rule, check_store
from fillbooks.laying import Ground, told_facts
from fillbooks.numbering import Values
from fillbooks.terms import in_order


def fill(book, store):
    """Return the ascending list of the facts that the book tells of the store."""
    check_book(book)
    check_store(store)
    values = Values()
    return values.written(told_facts(values, values.facts(store), book))


def lays(rule, store):
    """Return a list of dicts of the variables and their values, one for each way to lay the rule into the store."""
    check_rule(rule)
    check_store(store)
    values = Values()
    body = rule[0]
    names = sorted(in_order(body))
    variables, ways = Ground(values, values.facts(store), list(body)).ways(body, names)
    terms = values.terms([number for way in ways for number in way])
    places = [variables.index(name) for name in names]
    rows = sorted([tuple([terms[way[place]] for place in places]) for way in ways])
    return [dict(zip(names, row)) for row in rows]
