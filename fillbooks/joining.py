"""Books behind one another."""

from fillbooks.books import check_book, check_row, check_store, is_relation
from fillbooks.errors import InvalidRelations, TooMany
from fillbooks.forms import book_form, formed, in_form
from fillbooks.holding import from_merged
from fillbooks.laying import told_facts
from fillbooks.numbering import Values
from fillbooks.terms import in_order, nth_variable, replaced
from fillbooks.unifying import merged_rows

MOST_NAMES = 200
MOST_WORDS = 200
MOST_CHOICES = 60
MOST_ATOMS = 6
MOST_RELATIONS = 24

# More than the variables that a rule can have, so that one rule can be told apart from another.
VARIABLES_OF_A_RULE = 1000


def fill_row(books, store):
    """Return the ascending list of the facts that the last book of a row tells of what the ones ahead of it tell."""
    check_row(books)
    check_store(store)
    values = Values()
    facts = values.facts(store)
    for book in books:
        facts = told_facts(values, facts, book)
        if any([values.names_of(numbers) > MOST_NAMES for rows in facts.values() for numbers in rows]):
            raise TooMany("a fact has too many names")
    return values.written(facts)


def joined(one, other):
    """Return the one book that fills every store as `one` and behind it `other` do, in its least form."""
    check_book(one)
    check_book(other)
    return joined_forms(formed(one), formed(other))


def row(books):
    """Return the one book that fills every store as the books of a row do, in its least form."""
    check_row(books)
    return row_form(books)


def identity(relations):
    """Return the least form of the book that tells just the facts of a store that bear one of these relations."""
    if not _are_relations(relations):
        raise InvalidRelations("this is not a list of relations")
    atoms = [(name, tuple([nth_variable(k) for k in range(number)])) for name, number in sorted(set(relations))]
    return in_form([((atom,), (atom,)) for atom in atoms])


def row_form(books):
    """Return what row returns, without a look at what is passed; the row may be longer."""
    whole = formed(books[0])
    for book in books[1:]:
        whole = joined_forms(whole, formed(book))
    return whole


def joined_forms(one, other):
    """Return what joined returns for two least forms."""
    rows, rules = from_merged(merged_choices(one, other))
    if any([len(rule[0]) > MOST_ATOMS for rule in rules]):
        raise TooMany("a body has too many atoms")
    return book_form(rows, rules)


def merged_choices(one, other):
    """Return the rules that come of two least forms, one for each choice that can be, as from_merged is passed them."""
    # Each place of a body has its own copies of the rules: one rule may be chosen twice.
    copies = [[_with_own_variables(rule, place) for rule in one] for place in (1, 2, 3, 4)]
    merged = [_joined_rows(rule, chosen) for rule, chosen in _choices(copies, other)]
    return [told for told in merged if told is not None]


def _joined_rows(rule, chosen):
    """Return the rows of the rule that comes of a rule and the rules that tell its atoms; None if this cannot be."""
    asked = list(rule[0])
    many = len(asked)
    told = [own[1][0] for own in chosen]
    body = [atom for own in chosen for atom in own[0]]
    merged = merged_rows(asked + told + body + [rule[1][0]], [(k, many + k) for k in range(many)], MOST_WORDS)
    if merged is None:
        return None
    rows, homes, places = merged
    return rows, homes, places[2 * many:]


def _with_own_variables(rule, place):
    """Return the rule with variables that stand in no other rule, nor in one for another place."""
    ways = {name: nth_variable(VARIABLES_OF_A_RULE * place + k) for k, name in enumerate(in_order(rule[0]))}
    return tuple([tuple([replaced(atom, ways) for atom in atoms]) for atoms in rule])


def _choices(copies, other):
    """Return tuples of a rule of `other` and a list of rules, one for each atom, whose heads can be the same as it.

    Raise TooMany if there are too many choices of all of these rules together.
    """
    many = 0
    found = []
    for rule in other:
        lists = [[own for own in rules if _can_be_told(atom, own)] for atom, rules in zip(rule[0], copies)]
        choices = 1
        for fit in lists:
            choices = choices * len(fit)
        many = many + choices
        if many > MOST_CHOICES:
            raise TooMany("there are too many choices of rules")
        found = found + [(rule, chosen) for chosen in _one_of_each(lists)]
    return found


def _can_be_told(atom, rule):
    """Tell whether the atom can be made the same as the head of the rule."""
    return merged_rows([atom, rule[1][0]], [(0, 1)], None) is not None


def _one_of_each(lists):
    """Return all lists of one thing of each list."""
    found = [[]]
    for things in lists:
        found = [chosen + [thing] for chosen in found for thing in things]
    return found


def _are_relations(value):
    return isinstance(value, list) and len(value) <= MOST_RELATIONS and all([is_relation(part) for part in value])
