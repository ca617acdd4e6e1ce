"""Books that, behind a book, do what another one does."""

from fillbooks.books import check_book, is_relation, own_constants
from fillbooks.comparing import never_more
from fillbooks.errors import InvalidRelation, TooMany
from fillbooks.filling import fill
from fillbooks.forms import book_form, formed
from fillbooks.holding import any_holds, from_merged, in_rows
from fillbooks.joining import identity, joined_forms, merged_choices
from fillbooks.terms import in_order, replaced
from fillbooks.unifying import merged_rows

MOST_TOLD = 6

# No variable: what is asked for by this name is one constant more than the variables need.
ONE_MORE = "one more"


def behind(one, whole):
    """Return the book that asks most of those that, behind `one`, fill stores as `whole` does; None if none does."""
    check_book(one)
    check_book(whole)
    return _looked_for(one, whole)[0]


def no_behind(one, whole):
    """Return two stores and two facts that show that no book, behind `one`, does as `whole`; None if one does."""
    check_book(one)
    check_book(whole)
    return _looked_for(one, whole)[1]


def had_again(book, relation):
    """Return the book that tells of what a book told the facts of a relation that the store had; None if none does."""
    check_book(book)
    if not is_relation(relation):
        raise InvalidRelation("this is not a relation")
    return behind(book, identity([relation]))


def _looked_for(one, whole):
    """Return a tuple of the book that behind returns and of what no_behind returns: one of the two is None."""
    form = formed(whole)
    constants = own_constants(in_order([atom for body, _ in form for atom in body]) + [ONE_MORE], [one, whole])
    cases = [_case(one, rule, constants) for rule in form]
    if any([len(told) > MOST_TOLD for _, told in cases]):
        raise TooMany("a book tells too many facts of a body")
    for case in cases:
        shown = _shown_by_what_is_lost(case, constants)
        if shown is not None:
            return None, shown
    rules = [_asking_rule(case, constants) for case in cases]
    rows, numbered = in_rows(rules)
    book = book_form(rows, numbered)
    own = formed(one)
    joint = joined_forms(own, book)
    if joint == form:
        return book, None
    return None, _shown_by_what_is_more(cases, rules, own, book, joint, form, [one, whole])


def _case(one, rule, constants):
    """Return a rule with constants of its own put for its variables, and what `one` tells of its body then."""
    body, heads = rule
    frozen = tuple([replaced(atom, constants) for atom in body]), tuple([replaced(atom, constants) for atom in heads])
    return frozen, fill(one, list(frozen[0]))


def _asking_rule(case, constants):
    """Return the rule that asks for all that was told in a case, with the variables for the constants again."""
    (_, heads), told = case
    variables = {value[0]: name for name, value in constants.items()}
    return tuple([_thawed(fact, variables) for fact in told]), tuple([_thawed(head, variables) for head in heads])


def _thawed(term, variables):
    """Return the term, or the atom, with variables put for the constants of these names."""
    name, parts = term
    if not parts:
        return variables.get(name, term)
    return name, tuple([_thawed(part, variables) for part in parts])


def _shown_by_what_is_lost(case, constants):
    """Return what shows that no book can do it of which nothing, or not all of the head, was told; None if all was.

    If nothing was told, nothing is told of the empty store, either. If a constant of the head was
    not told, another one could stand for it.
    """
    (body, heads), told = case
    head = heads[0]
    if not told:
        return sorted(body), head, [], head
    names = {value[0]: name for name, value in constants.items()}
    known = in_order([_thawed(fact, names) for fact in told])
    lost = [name for name in in_order([_thawed(head, names)]) if name not in known]
    if not lost:
        return None
    other = replaced(_thawed(head, names), {**constants, lost[0]: constants[ONE_MORE]})
    return sorted(body), head, sorted(body), other


def _shown_by_what_is_more(cases, rules, one, book, joint, form, named):
    """Return what shows that the book, behind `one`, tells more than the form.

    Of the rules of what is joined, one tells more. It comes of a rule of the book, behind `one`,
    and this one of one of the rules that ask for all that was told in a case.
    """
    more = [rule for rule in joint if not never_more((rule,), form)][0]
    through = [rule for rule in book if _tells_through(one, rule, more)][0]
    rows, numbered = in_rows(rules + [through])
    case = [case for case, rule in zip(cases, numbered) if any_holds(rows, [rule], numbered[-1])][0]
    (body, heads), _ = case
    constants = own_constants(in_order(more[0]), named)
    second = sorted([replaced(atom, constants) for atom in more[0]])
    return sorted(body), heads[0], second, replaced(more[1][0], constants)


def _tells_through(one, rule, told):
    """Tell whether a rule, behind the book `one`, tells the head of the rule `told` of its body."""
    merged = merged_choices(one, (rule,)) + [merged_rows(told[0] + told[1], [], None)]
    rows, numbered = from_merged(merged)
    return any_holds(rows, numbered[:-1], numbered[-1])
