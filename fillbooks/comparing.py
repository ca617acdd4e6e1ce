"""Books held against one another, for all stores."""

from fillbooks.books import check_book, is_store, one_headed, own_constants
from fillbooks.errors import TooMany
from fillbooks.holding import any_holds, from_merged, in_rows
from fillbooks.rows import written
from fillbooks.terms import in_order
from fillbooks.unifying import merged_rows

MOST_WORDS = 200


def never_more(one, other):
    """Tell whether for all stores `one` tells no fact that `other` does not tell."""
    check_book(one)
    check_book(other)
    return not _not_held(one, other)


def alike(one, other):
    """Tell whether two books fill all stores alike."""
    check_book(one)
    check_book(other)
    return not _not_held(one, other) and not _not_held(other, one)


def parting(one, other):
    """Return a store of the fewest unlike facts that two books fill unlike; None if they are alike."""
    check_book(one)
    check_book(other)
    sides = []
    for book, against in ((one, other), (other, one)):
        blocks = [_blocks(body) for body, _ in book]
        told = [(book[k][0], head, blocks[k]) for k, head in _not_held(book, against)]
        sides.append((told, against))
    atoms = [atom for rule in one + other for atom in rule[0]]
    constants = own_constants(in_order(atoms), [one, other])
    for many in (1, 2, 3, 4):
        stores = [store for told, against in sides for store in _unlike_stores(told, against, many, constants)]
        if stores:
            return _small_store(stores)
    return None


def _not_held(one, other):
    """Return the number of the rule and the head for each head of `one` that `other` does not tell of its body."""
    heads = [(k, head) for k, rule in enumerate(one) for head in rule[1]]
    rows, rules = in_rows(one_headed(one) + one_headed(other))
    holders = rules[len(heads):]
    return [told for told, rule in zip(heads, rules) if not any_holds(rows, holders, rule)]


def _blocks(body):
    """Return the ways to put the atoms of a body into blocks by which those of each block can be made the same."""
    told = []
    for blocks in _partings(len(body)):
        if merged_rows(body, _pairs_in(blocks), MOST_WORDS) is not None:
            told.append(blocks)
    return told


def _partings(many):
    """Return all ways to part the numbers below this one: lists of lists."""
    ways = [[]]
    for k in range(many):
        joining = [way[:at] + [way[at] + [k]] + way[at + 1:] for way in ways for at in range(len(way))]
        ways = joining + [way + [[k]] for way in ways]
    return ways


def _pairs_in(blocks):
    return [(block[0], k) for block in blocks for k in block[1:]]


def _unlike_stores(told, against, many, constants):
    """Return the stores of so many blocks of which the book does not tell the head of a rule that tells it of them.

    told is a list of bodies, of heads and of the ways to put these bodies into blocks. If atoms of
    unlike blocks are the same then, the store has been looked at with fewer blocks.
    """
    merged = []
    for body, head, blocks in told:
        for way in blocks:
            if len(way) == many:
                rows, homes, places = merged_rows(body + (head,), _pairs_in(way), None)
                merged.append(([constants[row] if isinstance(row, str) else row for row in rows], homes, places))
    others = [merged_rows(body + heads, [], None) for body, heads in one_headed(against)]
    rows, rules = from_merged(merged + others)
    terms = written(rows)
    holders = rules[len(merged):]
    return [[terms[atom] for atom in rule[0]] for rule in rules[:len(merged)] if not any_holds(rows, holders, rule)]


def _small_store(stores):
    """Return the first of these that is a store by its numbers, in order; raise TooMany if there is none."""
    for store in stores:
        if is_store(store):
            return sorted(store)
    raise TooMany("each store that parts the books has too great a value")
