"""Facts of one kind in sheaves: an atom is laid into all facts of a sheaf at once, not into one after the other.

A spot is a place in a fact where an atom may have a variable: a tuple of the number of the term,
then, for each made thing around it, its name, how many terms stand in it, and which of them it is.
All facts of a sheaf have a value at the same spots of those that are asked for.
"""

from fillbooks.terms import variable_places

# A mask has a bit for each fact of a sheaf: it is to stay a number of some hundred digits.
MOST_ROWS = 1000


class Sheaf:
    """Some facts, as a dict of spots and the lists of the numbers of their values there.

    A mask is an integer that tells some of the facts: it has a bit for each one, the highest for
    the first.
    """

    def __init__(self, columns):
        self.columns = columns
        self.many = len(columns[(0,)])
        self.full = (1 << self.many) - 1
        self.masks = {}

    def fitting(self, variables, fixed):
        """Return the mask of the facts into which an atom can be laid.

        variables is a list of the lists of the spots of each variable of the atom, fixed a list of
        spots and the numbers of the values that stand there.
        """
        if not all([spot in self.columns for spots in variables for spot in spots]):
            return 0
        mask = self.full
        for spot, number in fixed:
            mask = mask & self._with_value(spot, number)
        for spots in variables:
            for one, other in zip(spots, spots[1:]):
                if mask:
                    mask = mask & self._alike(one, other)
        return mask

    def places(self, mask):
        """Return the ascending list of the places of the facts of a mask."""
        if mask == self.full:
            return list(range(self.many))
        return [place for place, sign in enumerate(f"{mask:b}".zfill(self.many)) if sign == "1"]

    def rows(self, spots, places):
        """Return the list of the tuples of the values at these spots, of the facts at these places."""
        chosen = [[self.columns[spot][place] for place in places] for spot in spots]
        return list(zip(*chosen)) if chosen else [()] * len(places)

    def _with_value(self, spot, number):
        """Return the mask of the facts that have this value at the spot, 0 if they have none there."""
        column = self.columns.get(spot, [])
        many = column.count(number)
        if many == 0 or many == self.many:
            return self.full if many else 0
        key = spot, number
        if key not in self.masks:
            self.masks[key] = _mask([other == number for other in column])
        return self.masks[key]

    def _alike(self, one, other):
        """Return the mask of the facts that have the same value at both spots."""
        key = one, other
        if key not in self.masks:
            left, right = self.columns[one], self.columns[other]
            self.masks[key] = self.full if left == right else _mask([a == b for a, b in zip(left, right)])
        return self.masks[key]


def leaves(atom):
    """Return a list of the spots of an atom, and the variables or the terms without variables that stand there."""
    found = []
    todo = [((place,), term) for place, term in enumerate(atom[1])]
    while todo:
        spot, term = todo.pop()
        if isinstance(term, str) or not variable_places(term):
            found.append((spot, term))
        else:
            name, parts = term
            todo.extend([(spot + (name, len(parts), place), part) for place, part in enumerate(parts)])
    return found


def in_sheaves(values, rows, spots):
    """Return the sheaves of these facts, told as rows of numbers, for atoms with these spots."""
    asked = {}
    for spot in spots:
        for at in range(1, len(spot), 3):
            kinds = asked.setdefault(spot[:at], {})
            kinds[spot[at:at + 2]] = True
    first = list(zip(*rows))
    sheaves = [{(place,): list(column) for place, column in enumerate(first)}] if rows else []
    for spot in sorted(list(asked), key=len):
        sheaves = [part for columns in sheaves for part in _split(values, columns, spot, asked[spot])]
    return [part for columns in sheaves for part in _cut(columns)]


def _split(values, columns, spot, kinds):
    """Return the columns in parts: the facts that have a value of one of these kinds at the spot, and the others.

    Those of a kind are told with what stands right in their values there, too.
    """
    if spot not in columns:
        return [columns]
    groups = {}
    for place, number in enumerate(columns[spot]):
        kind = values.kinds[number]
        groups.setdefault(kind if kind in kinds else (), []).append(place)
    told = []
    for kind, places in groups.items():
        part = columns
        if len(groups) > 1:
            part = {other: [column[at] for at in places] for other, column in columns.items()}
        told.append(_with_inner(values, part, spot, kind) if kind else part)
    return told


def _with_inner(values, columns, spot, kind):
    """Return the columns with those of what stands right in the values at the spot, all of this kind."""
    standing = [values.parts[number] for number in columns[spot]]
    inner = list(zip(*standing))
    new = {spot + kind + (place,): list(column) for place, column in enumerate(inner)}
    return {**columns, **new}


def _cut(columns):
    """Return sheaves of not too many facts each."""
    many = len(columns[(0,)])
    starts = range(0, many, MOST_ROWS)
    return [Sheaf({spot: column[at:at + MOST_ROWS] for spot, column in columns.items()}) for at in starts]


def _mask(flags):
    return int("".join(["1" if flag else "0" for flag in flags]), 2)
