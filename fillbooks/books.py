"""Atoms, rules and books, and what else is made of them: facts, stores, rows of books."""

from fillbooks.errors import InvalidBook, InvalidFact, InvalidRow, InvalidRule, InvalidStore
from fillbooks.terms import has_form, in_order, is_name, is_term, names_in, variable_places

MOST_PARTS = 4
MOST_BODY = 4
MOST_HEADS = 3
MOST_RULES = 24
MOST_HEADS_OF_A_BOOK = 24
MOST_FACTS = 30
MOST_BOOKS = 8


def check_rule(rule):
    """Return None if this is a rule; raise InvalidRule for anything else."""
    if not is_rule(rule):
        raise InvalidRule("this is not a rule")


def check_book(book):
    """Return None if this is a book; raise InvalidBook for anything else."""
    if not is_book(book):
        raise InvalidBook("this is not a book")


def check_store(store):
    """Return None if this is a store; raise InvalidStore for anything else."""
    if not is_store(store):
        raise InvalidStore("this is not a store")


def check_fact(fact):
    """Return None if this is a fact; raise InvalidFact for anything else."""
    if not is_fact(fact):
        raise InvalidFact("this is not a fact")


def check_row(books):
    """Return None if this is a row of books; raise InvalidRow for anything else."""
    if not is_row(books):
        raise InvalidRow("this is not a row of books")


def relations(book):
    """Return the ascending lists of the relations, with their numbers of terms, of the bodies and of the heads."""
    check_book(book)
    asked = [_relation(atom) for rule in book for atom in rule[0]]
    told = [_relation(atom) for rule in book for atom in rule[1]]
    return sorted(set(asked)), sorted(set(told))


def is_atom(value):
    """Tell whether the value is a relation and a tuple of 1 to 4 terms."""
    return has_form(value) and len(value[1]) >= 1 and all([is_term(term) for term in value[1]])


def is_rule(value):
    """Tell whether the value is a rule."""
    if not isinstance(value, tuple) or len(value) != 2:
        return False
    body, heads = value
    if not _are_atoms(body, MOST_BODY) or not _are_atoms(heads, MOST_HEADS):
        return False
    known = in_order(body)
    return all([name in known for name in in_order(heads)])


def is_book(value):
    """Tell whether the value is a book."""
    if not isinstance(value, tuple) or len(value) > MOST_RULES:
        return False
    return all([is_rule(rule) for rule in value]) and sum([len(rule[1]) for rule in value]) <= MOST_HEADS_OF_A_BOOK


def is_fact(value):
    """Tell whether the value is an atom of values."""
    return is_atom(value) and not variable_places(value)


def is_store(value):
    """Tell whether the value is a store."""
    return isinstance(value, list) and len(value) <= MOST_FACTS and all([is_fact(fact) for fact in value])


def is_row(value):
    """Tell whether the value is a row of books."""
    return isinstance(value, list) and 1 <= len(value) <= MOST_BOOKS and all([is_book(book) for book in value])


def is_relation(value):
    """Tell whether the value is a relation with the number of its terms."""
    if not isinstance(value, tuple) or len(value) != 2:
        return False
    name, number = value
    if not is_name(name) or not isinstance(number, int) or isinstance(number, bool):
        return False
    return 1 <= number <= MOST_PARTS


def made_things(atoms):
    """Return the list of the made things that stand right in these atoms, one for each place where one stands."""
    return [term for atom in atoms for term in atom[1] if not isinstance(term, str) and term[1]]


def without_made_things(facts):
    """Return the list of those of these facts in which nothing made stands."""
    return [fact for fact in facts if not made_things([fact])]


def unlike_facts(store):
    """Return the ascending list of the unlike facts of a store."""
    ordered = sorted(store)
    return [fact for at, fact in enumerate(ordered) if at == 0 or fact != ordered[at - 1]]


def one_headed(book):
    """Return the list of the rules of one head each that tell what the rules of the book tell."""
    return [(body, (head,)) for body, heads in book for head in heads]


def own_constants(variables, books):
    """Return a dict of the variables and a constant of its own for each one, which stands nowhere in the books."""
    atoms = [atom for book in books for rule in book for part in rule for atom in part]
    used = {name: True for name in names_in([term for atom in atoms for term in atom[1]])}
    fresh = [name for name in [f"c{k}" for k in range(len(variables) + len(used))] if name not in used]
    return {variable: (name, ()) for variable, name in zip(variables, fresh)}


def _relation(atom):
    return atom[0], len(atom[1])


def _are_atoms(value, most):
    if not isinstance(value, tuple) or not 1 <= len(value) <= most:
        return False
    return all([is_atom(atom) for atom in value])
