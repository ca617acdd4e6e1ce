"""Terms: variables, constants, and things made of what stands in them."""

from fillbooks.errors import InvalidTerm, InvalidWays

NAME_SIGNS = "abcdefghijklmnopqrstuvwxyz0123456789"
VARIABLE_SIGNS = "ABCDEFGHIJKLMNOPQRSTUVWXYZ"
LONGEST_NAME = 8
LONGEST_VARIABLE = 3
MOST_TERMS = 4
MOST_LEVELS = 6
MOST_WORDS = 30


def check_term(term):
    """Return None if this is a term; raise InvalidTerm for anything else."""
    if not is_term(term):
        raise InvalidTerm("this is not a term")


def variables_in(term):
    """Return the ascending list of the variables that stand in a term."""
    check_term(term)
    return sorted(set(variable_places(term)))


def put(term, ways):
    """Return the term with the terms of the dict put for its variables, all at once."""
    check_term(term)
    if not _are_ways(ways):
        raise InvalidWays("this is not a dict of variables and their terms")
    return replaced(term, ways)


def is_name(value):
    """Tell whether the value is a name."""
    return _is_word(value, NAME_SIGNS, LONGEST_NAME)


def is_variable(value):
    """Tell whether the value is a variable."""
    return _is_word(value, VARIABLE_SIGNS, LONGEST_VARIABLE)


def is_term(value):
    """Tell whether the value is a term, by its form and by its numbers."""
    return 1 <= _words(value, MOST_LEVELS) <= MOST_WORDS


def has_form(value):
    """Tell whether the value is a name and a tuple of a few things, whatever these may be."""
    if not isinstance(value, tuple) or len(value) != 2:
        return False
    name, parts = value
    return is_name(name) and isinstance(parts, tuple) and len(parts) <= MOST_TERMS


def variable_places(term):
    """Return a list of the variables of a term of any size, one for each place where one stands, in their order.

    An atom may be passed, too: it has the form of a term.
    """
    found = []
    todo = [term]
    while todo:
        part = todo.pop()
        if isinstance(part, str):
            found.append(part)
        else:
            todo.extend(part[1][::-1])
    return found


def in_order(terms):
    """Return a list of the variables of these terms or atoms, each once, in the order in which they stand in them."""
    return list({name: True for term in terms for name in variable_places(term)})


def names_in(terms):
    """Return the ascending list of the names that stand in these terms."""
    found = {}
    todo = list(terms)
    while todo:
        part = todo.pop()
        if not isinstance(part, str):
            found[part[0]] = True
            todo.extend(part[1])
    return sorted(found)


def nth_variable(number):
    """Return the variable with this number in the row `A` to `Z`, `AA` to `AZ`, `BA` and so on."""
    signs = VARIABLE_SIGNS[number % 26]
    rest = number // 26
    while rest > 0:
        signs = VARIABLE_SIGNS[(rest - 1) % 26] + signs
        rest = (rest - 1) // 26
    return signs


def replaced(term, ways):
    """Return what put returns, for terms of any size and any dict of strings and terms."""
    if isinstance(term, str):
        return ways.get(term, term)
    name, parts = term
    return name, tuple([replaced(part, ways) for part in parts])


def _is_word(value, signs, longest):
    if not isinstance(value, str) or not 1 <= len(value) <= longest:
        return False
    return all([sign in signs for sign in value])


def _words(value, levels):
    """Return the number of names and variables in a term of at most so many levels, 0 for anything else."""
    if levels == 0:
        return 0
    if isinstance(value, str):
        return 1 if is_variable(value) else 0
    if not has_form(value):
        return 0
    many = 1
    for part in value[1]:
        inner = _words(part, levels - 1)
        if inner == 0:
            return 0
        many = many + inner
    return many


def _are_ways(value):
    if not isinstance(value, dict):
        return False
    return all([is_variable(key) and is_term(term) for key, term in value.items()])
