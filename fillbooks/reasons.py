"""Why a fact is told, which facts are needless, and what changes with the store."""

from fillbooks.books import MOST_FACTS, check_book, check_fact, check_store, is_fact, unlike_facts
from fillbooks.errors import InvalidChange
from fillbooks.laying import Ground, told_facts
from fillbooks.numbering import Values, kind_of
from fillbooks.terms import in_order


def reasons(book, store, fact):
    """Return the ascending list of the least lists of facts of the store of which the book tells the fact."""
    check_book(book)
    check_store(store)
    check_fact(fact)
    facts = unlike_facts(store)
    values = Values()
    ways = _ways_to_tell(values, facts, book).get(_key(values, fact), {})
    least = [mask for mask in ways if not _has_a_part_in(mask, ways)]
    return sorted([[other for place, other in enumerate(facts) if (mask >> place) & 1] for mask in least])


def needless(book, store):
    """Return the ascending list of the facts each of which could be left out without any change of the filling."""
    check_book(book)
    check_store(store)
    facts = unlike_facts(store)
    needed = 0
    for ways in _ways_to_tell(Values(), facts, book).values():
        common = -1
        for mask in ways:
            common = common & mask
        needed = needed | common
    return [fact for place, fact in enumerate(facts) if not (needed >> place) & 1]


def changes(book, store, come, go):
    """Return the lists of the facts that the filling has anew, and has no more, if some facts come and some go."""
    check_book(book)
    check_store(store)
    if not _is_change(store, come, go):
        raise InvalidChange("this is not a change of the store")
    values = Values()
    before = told_facts(values, values.facts(store), book)
    after = told_facts(values, values.facts(_changed(store, come, go)), book)
    return values.written(_without(after, before)), values.written(_without(before, after))


def _ways_to_tell(values, facts, book):
    """Return a dict of what is told, by its kind and its numbers, and dicts of the sets of facts on which it is told.

    Each of these is an integer: it has a bit for each of the facts on which the body is laid.
    """
    bits = {_key(values, fact): 1 << place for place, fact in enumerate(facts)}
    ground = Ground(values, values.facts(facts), [atom for body, _ in book for atom in body])
    found = {}
    for body, heads in book:
        variables, ways = ground.ways(body, in_order(body))
        masks = [0] * len(ways)
        for atom in body:
            kind = kind_of(atom)
            masks = [mask | bits[kind, row] for mask, row in zip(masks, values.rows(atom, variables, ways))]
        for head in heads:
            kind = kind_of(head)
            for mask, row in zip(masks, values.rows(head, variables, ways)):
                known = found.setdefault((kind, row), {})
                known[mask] = True
    return found


def _key(values, fact):
    return kind_of(fact), tuple([values.value(term) for term in fact[1]])


def _has_a_part_in(mask, ways):
    """Tell whether a part of the set of this mask is among the ways."""
    part = (mask - 1) & mask
    while part:
        if part in ways:
            return True
        part = (part - 1) & mask
    return False


def _is_change(store, come, go):
    if not _are_facts(come) or not _are_facts(go):
        return False
    if not all([fact in store for fact in go]) or any([fact in store for fact in come]):
        return False
    return len(unlike_facts(_changed(store, come, go))) <= MOST_FACTS


def _are_facts(value):
    return isinstance(value, list) and len(value) <= MOST_FACTS and all([is_fact(fact) for fact in value])


def _changed(store, come, go):
    return [fact for fact in store if fact not in go] + come


def _without(facts, others):
    """Return those of the facts, by their kinds and numbers, that are not among the others."""
    found = {}
    for kind, rows in facts.items():
        known = {row: True for row in others.get(kind, [])}
        found[kind] = [row for row in rows if row not in known]
    return found
