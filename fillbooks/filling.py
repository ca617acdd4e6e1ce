"""What a book tells of a store, and the ways to lay a rule into one."""

from fillbooks.books import check_book, check_rule, check_store
from fillbooks.laying import Ground, Values, told_facts


def fill(book, store):
    """Return the ascending list of the facts that the book tells of the store."""
    check_book(book)
    check_store(store)
    values = Values()
    ground = Ground(values, values.facts(store))
    return values.written(told_facts(values, ground, book))


def lays(rule, store):
    """Return a list of dicts of the variables and their values, one for each way to lay the rule into the store."""
    check_rule(rule)
    check_store(store)
    values = Values()
    ground = Ground(values, values.facts(store))
    variables, ways = ground.ways(rule[0])
    names = sorted(variables)
    places = [variables.index(name) for name in names]
    rows = sorted([tuple([values.terms[way[k]] for k in places]) for way in ways])
    return [dict(zip(names, row)) for row in rows]
