"""Books of variables alone, told back from stores and what became of them.

Here a store is looked at as a list of tuples of a relation and the names of its constants.
"""

from fillbooks.books import is_fact, made_things
from fillbooks.errors import InvalidPairs, InvalidStore

MOST_PAIRS = 5
MOST_STANDING = 8
MOST_CONSTANTS = 5
MOST_TOLD = 12


def clash(pairs):
    """Return None if some book fits all pairs of stores and fillings; otherwise what clashes."""
    _check_pairs(pairs)
    return _first_clash(_as_names(pairs))


def surely(pairs, store):
    """Return the ascending list of the facts that each book that fits tells of a further store; None if none fits."""
    _check_pairs(pairs)
    if not _is_small_store(store):
        raise InvalidStore("this is not a store of few facts of few constants")
    named = _as_names(pairs)
    if _first_clash(named) is not None:
        return None
    aim = _with_names(store)
    found = {}
    for standing, filling in named:
        for fact in _led(filling, standing, aim):
            found[fact] = True
    return [_with_constants(fact) for fact in sorted(found)]


def _check_pairs(pairs):
    if not isinstance(pairs, list) or not 1 <= len(pairs) <= MOST_PAIRS or not all([_is_pair(pair) for pair in pairs]):
        raise InvalidPairs("this is not a list of pairs of a store and a filling")


def _is_pair(value):
    if not isinstance(value, tuple) or len(value) != 2:
        return False
    return _is_small_store(value[0]) and _are_facts(value[1], MOST_TOLD)


def _is_small_store(value):
    if not _are_facts(value, MOST_STANDING) or not value:
        return False
    return len({term[0] for fact in value for term in fact[1]}) <= MOST_CONSTANTS


def _are_facts(value, most):
    """Tell whether the value is a list of at most so many facts of constants."""
    if not isinstance(value, list) or len(value) > most:
        return False
    return all([is_fact(fact) and not made_things([fact]) for fact in value])


def _as_names(pairs):
    return [(_with_names(store), _with_names(filling)) for store, filling in pairs]


def _with_names(facts):
    return [(relation, tuple([term[0] for term in terms])) for relation, terms in facts]


def _with_constants(fact):
    return fact[0], tuple([(name, ()) for name in fact[1]])


def _first_clash(pairs):
    """Return what clash returns."""
    for number, (store, filling) in enumerate(pairs):
        names = _names_in(store)
        strange = [fact for fact in filling if not all([name in names for name in fact[1]])]
        if strange:
            return number, number, _with_constants(min(strange))
    for first, (store, filling) in enumerate(pairs):
        for second, (aim, other) in enumerate(pairs):
            missing = [fact for fact in _led(filling, store, aim) if fact not in other]
            if missing:
                return first, second, _with_constants(min(missing))
    return None


def _names_in(facts):
    return sorted({name for fact in facts for name in fact[1]})


def _led(filling, store, aim):
    """Return the list of the facts to which those of the filling are led by the maps that lead the store to aim."""
    names = _names_in(store)
    maps = _maps(names, store, aim)
    found = {}
    for relation, standing in filling:
        places = [names.index(name) for name in standing]
        for way in maps:
            found[relation, tuple([way[place] for place in places])] = True
    return list(found)


def _maps(names, store, aim):
    """Return all tuples of names to put for these ones so that each fact of the store is one of aim."""
    known = {fact: True for fact in aim}
    ways = [()]
    for many in range(1, len(names) + 1):
        ways = [way + (name,) for way in ways for name in _names_in(aim)]
        for relation, standing in store:
            places = [names.index(name) for name in standing]
            # The fact can be looked at as soon as the last of its names has one put for it.
            if max(places) == many - 1:
                ways = [way for way in ways if (relation, tuple([way[place] for place in places])) in known]
    return ways
