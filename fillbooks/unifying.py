"""Terms of variables by which the two terms of each pair become the same.

No term is written out before its size is known: terms may double and double. The parts of the
terms are numbered, those that have to be the same are brought into one class, and each class is
looked at once.
"""

from fillbooks.errors import InvalidPairs, TooMany
from fillbooks.rows import row_sizes, written
from fillbooks.terms import is_term

MOST_PAIRS = 10
MOST_TOLD_WORDS = 60


def unified(pairs):
    """Return the most general terms that make the pairs the same, as a dict; None if there are none."""
    if not _are_pairs(pairs):
        raise InvalidPairs("this is not a list of pairs of terms")
    terms = [term for pair in pairs for term in pair]
    merged = merged_rows(terms, [(2 * k, 2 * k + 1) for k in range(len(pairs))], MOST_TOLD_WORDS)
    if merged is None:
        return None
    rows, homes, _ = merged
    told = written(rows)
    return {variable: told[homes[variable]] for variable in sorted(homes)}


def merged_rows(terms, same, bound):
    """Return what comes of a list of terms where those of some pairs are made the same; None if they cannot be.

    same is the list of these pairs, of the numbers of the terms. Told are the rows of what comes
    (see rows.py), a dict of the variables that stood in the terms and the numbers of their rows,
    and the list of the numbers of the rows of the terms. Any string is a variable here, and atoms
    are terms. TooMany is raised if the term of some variable has more names and variables than the
    bound; None is no bound.
    """
    if any([_are_apart(terms[one], terms[other]) for one, other in same]):
        return None
    parts, inner = _numbered(terms)
    leaders = _merged(parts, inner, same + _same_variables(parts))
    if leaders is None:
        return None
    classes = _classes(parts, inner, leaders)
    order = _inmost_first(classes)
    if order is None:
        return None
    places = {leader: row for row, leader in enumerate(order)}
    rows = [_row(classes[leader], places) for leader in order]
    homes = {part: places[leaders[k]] for k, part in enumerate(parts) if isinstance(part, str)}
    if bound is not None:
        sizes = row_sizes(rows)
        if any([sizes[row] > bound for row in homes.values()]):
            raise TooMany("a term has too many names and variables")
    return rows, homes, [places[leader] for leader in leaders[:len(terms)]]


def _are_pairs(value):
    if not isinstance(value, list) or len(value) > MOST_PAIRS:
        return False
    return all([_is_pair(pair) for pair in value])


def _is_pair(value):
    return isinstance(value, tuple) and len(value) == 2 and all([is_term(term) for term in value])


def _are_apart(one, other):
    """Tell whether the two have unlike names at one place: nothing else has to be looked at then."""
    todo = [(one, other)]
    while todo:
        left, right = todo.pop()
        if isinstance(left, str) or isinstance(right, str):
            continue
        if not _can_be_one(left, right):
            return True
        todo.extend(list(zip(left[1], right[1])))
    return False


def _numbered(terms):
    """Return a list of the parts of these terms, and for each one the numbers of those right in it.

    The terms stand first. A variable or a constant that stands in several made things is one part
    of them all.
    """
    parts = list(terms)
    inner = []
    known = {}
    while len(inner) < len(parts):
        part = parts[len(inner)]
        numbers = []
        standing = () if isinstance(part, str) else part[1]
        for within in standing:
            word = _single_word(within)
            number = known.get(word, len(parts))
            if number == len(parts):
                parts.append(within)
            if word is not None:
                known[word] = number
            numbers.append(number)
        inner.append(numbers)
    return parts, inner


def _single_word(term):
    """Return a variable, or the name of a constant; None for a made thing."""
    if isinstance(term, str):
        return term
    return None if term[1] else term[0]


def _same_variables(parts):
    """Return the pairs of numbers of the parts that are one variable."""
    first = {}
    for k, part in enumerate(parts):
        if isinstance(part, str):
            first.setdefault(part, k)
    return [(first[part], k) for k, part in enumerate(parts) if isinstance(part, str) and first[part] != k]


def _merged(parts, inner, same):
    """Return for each part the number of the one that leads its class; None if unlike parts would be one.

    A made thing leads its class wherever there is one in it. The smaller of two classes hangs
    under the greater one, so that the way from a part to the top of its class stays short.
    """
    tops = list(range(len(parts)))
    leaders = list(range(len(parts)))
    weights = [1] * len(parts)
    todo = list(same)
    while todo:
        one, other = todo.pop()
        high, low = _top(tops, one), _top(tops, other)
        if high == low:
            continue
        if weights[high] < weights[low]:
            high, low = low, high
        tops[low] = high
        weights[high] = weights[high] + weights[low]
        one, other = leaders[high], leaders[low]
        if isinstance(parts[one], str):
            leaders[high] = other
        elif not isinstance(parts[other], str):
            if not _can_be_one(parts[one], parts[other]):
                return None
            todo.extend(list(zip(inner[one], inner[other])))
    return [leaders[_top(tops, k)] for k in range(len(parts))]


def _top(tops, number):
    while tops[number] != number:
        number = tops[number]
    return number


def _can_be_one(one, other):
    """Tell whether two made things have the same name and the same number of terms."""
    return one[0] == other[0] and len(one[1]) == len(other[1])


def _classes(parts, inner, leaders):
    """Return what each class is, by the number of its leader.

    It is a variable, the least one of the class, or the name of a made thing with the numbers of
    the classes of what stands in it.
    """
    classes = {}
    for part, leader in zip(parts, leaders):
        if isinstance(parts[leader], str):
            classes[leader] = min(part, classes.get(leader, part))
        else:
            classes[leader] = parts[leader][0], [leaders[k] for k in inner[leader]]
    return classes


def _within(told):
    """Return the numbers of the classes that stand right in what _classes tells of a class."""
    return [] if isinstance(told, str) else told[1]


def _inmost_first(classes):
    """Return the numbers of the classes, each behind those that stand in it; None if one stands in itself."""
    users = {}
    waits = {}
    for k in classes:
        users[k] = []
    for k, told in classes.items():
        within = _within(told)
        waits[k] = len(within)
        for part in within:
            users[part].append(k)
    order = [k for k in classes if waits[k] == 0]
    done = 0
    while done < len(order):
        now = order[done]
        done += 1
        for user in users[now]:
            waits[user] = waits[user] - 1
            if waits[user] == 0:
                order.append(user)
    return order if len(order) == len(classes) else None


def _row(told, places):
    """Return the row of what _classes tells of a class, by the places of the others."""
    return told if isinstance(told, str) else (told[0], tuple([places[k] for k in told[1]]))
