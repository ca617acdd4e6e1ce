"""Plain books, whose made things may bear any name, and what they lead into."""

from fillbooks.books import check_book, made_things, own_constants
from fillbooks.errors import NotPlain
from fillbooks.laying import Ground, told_facts
from fillbooks.numbering import Values
from fillbooks.terms import in_order, nth_variable, replaced


def is_plain(book):
    """Tell whether a book is plain."""
    check_book(book)
    return _is_plain(book)


def leads_into(one, other):
    """Tell whether the filling by a plain book leads into that by another book, for all stores of constants."""
    check_book(one)
    check_book(other)
    _check_plain(one)
    return _first_that_does_not_lead(one, other) is None


def lead_both_ways(one, other):
    """Tell whether the fillings by two plain books lead into one another, for all stores of constants."""
    check_book(one)
    check_book(other)
    _check_plain(one)
    _check_plain(other)
    return _first_that_does_not_lead(one, other) is None and _first_that_does_not_lead(other, one) is None


def no_lead(one, other):
    """Return a question and a store of constants that show that a plain book does not lead; None if it does."""
    check_book(one)
    check_book(other)
    _check_plain(one)
    shown = _first_that_does_not_lead(one, other)
    if shown is None:
        return None
    asked, store = shown
    return ((asked, (("told", (("so", ()),)),)),), store


def _check_plain(book):
    if not _is_plain(book):
        raise NotPlain("this book is not plain")


def _is_plain(book):
    used = {}
    for body, heads in book:
        if made_things(body):
            return False
        variables = sorted(in_order(body))
        made = {}
        for name, parts in made_things(heads):
            if not all([isinstance(part, str) for part in parts]) or sorted(parts) != variables:
                return False
            if name in used or made.setdefault(name, parts) != parts:
                return False
        for name in made:
            used[name] = True
    return True


def _first_that_does_not_lead(one, other):
    """Return what shows that the filling by a plain book does not always lead into that by the other; None if it does.

    Of the first rule whose heads do not lead, these are the heads, with variables for what is
    made in them, and the body; a constant of its own is put for each variable of the rule.
    """
    constants = own_constants(in_order([atom for rule in one for atom in rule[0]]), [one, other])
    for body, heads in one:
        store = [replaced(atom, constants) for atom in body]
        store = [fact for k, fact in enumerate(store) if fact not in store[:k]]
        asked = _withoutmade_things(heads, constants)
        if not _tells_all(other, store, asked):
            return asked, store
    return None


def _withoutmade_things(heads, constants):
    """Return the heads of a rule of a plain book with the constants put in, and a variable for each unlike made thing.

    Those of one name are the same.
    """
    names = {name: nth_variable(k) for k, name in enumerate(sorted({part[0] for part in made_things(heads)}))}
    found = []
    for relation, terms in heads:
        found.append((relation, tuple([_without_made_thing(part, constants, names) for part in terms])))
    return tuple(found)


def _without_made_thing(part, constants, names):
    if isinstance(part, str) or not part[1]:
        return replaced(part, constants)
    return names[part[0]]


def _tells_all(book, store, asked):
    """Tell whether these atoms, three at most, can be laid together into what the book tells of the store."""
    kinds = [(atom[0], len(atom[1])) for atom in asked]
    chosen = [(body, [head for head in heads if (head[0], len(head[1])) in kinds]) for body, heads in book]
    values = Values()
    facts = told_facts(values, values.facts(store), [rule for rule in chosen if rule[1]])
    return _three_agree(Ground(values, facts, list(asked)), (asked * 3)[:3])


def _three_agree(ground, atoms):
    """Tell whether these three atoms can be laid into the ground together.

    There may be thousands of ways for each of them. So for each way of the first one, it is looked
    at once which values of the variables that stand in both others these let: a set of numbers,
    told as the bits of an integer.
    """
    names = [in_order([atom]) for atom in atoms]
    first, second, third = [ground.rows(atom) for atom in atoms]
    in_second = [name for name in names[0] if name in names[1]]
    in_third = [name for name in names[0] if name in names[2]]
    both = [name for name in names[1] if name in names[2]]
    bits = {key: 1 << k for k, key in enumerate(list({_chosen(row, names[1], both): True for row in second}))}
    lets = _bits_let(second, names[1], in_second, both, bits)
    other_lets = _bits_let(third, names[2], in_third, both, bits)
    for way in first:
        one, other = _chosen(way, names[0], in_second), _chosen(way, names[0], in_third)
        if lets.get(one, 0) & other_lets.get(other, 0):
            return True
    return False


def _bits_let(rows, names, known, asked, bits):
    """Return a dict of values of the known variables and the bits of the values of the asked ones beside them."""
    found = {}
    for row in rows:
        key = _chosen(row, names, known)
        found[key] = found.get(key, 0) | bits.get(_chosen(row, names, asked), 0)
    return found


def _chosen(row, names, wanted):
    """Return the tuple of the values of the wanted variables in a row of values of the named ones."""
    return tuple([row[names.index(name)] for name in wanted])
