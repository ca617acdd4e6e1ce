"""Bodies laid into facts of values of any size."""

from fillbooks.errors import TooMany
from fillbooks.numbering import kind_of
from fillbooks.sheaves import in_sheaves, leaves
from fillbooks.terms import in_order

MOST_WAYS = 1000


class Ground:
    """Facts into which some atoms are laid."""

    def __init__(self, values, facts, atoms):
        self.source = values
        self.sheaves = {}
        spots = {}
        for atom in atoms:
            asked = spots.setdefault(kind_of(atom), {})
            for spot, _ in leaves(atom):
                asked[spot] = True
        for kind, asked in spots.items():
            self.sheaves[kind] = in_sheaves(values, facts.get(kind, []), list(asked))

    def ways(self, body, wanted):
        """Return a list of variables and a list of tuples of the numbers of their values, one for each way.

        The variables are the wanted ones; so two of these tuples may be the same. Raise TooMany if
        the first atoms of the body, some number of them, can be laid in more than 1,000 ways.
        """
        variables, rows = [], [()]
        for at, atom in enumerate(body):
            own = in_order([atom])
            needed = wanted + in_order(body[at + 1:])
            known = [name for name in own if name in variables]
            fresh = [name for name in own if name in needed and name not in variables]
            kept = [name for name in variables if name in needed]
            keys = _chosen(rows, variables, known)
            groups = self._groups(atom, known, fresh, keys)
            if sum([len(groups[key]) for key in keys]) > MOST_WAYS:
                raise TooMany("a body can be laid in too many ways")
            stay = _chosen(rows, variables, kept)
            rows = [old + new for old, key in zip(stay, keys) for new in groups[key]]
            variables = kept + fresh
        return variables, rows

    def rows(self, atom):
        """Return a list of tuples of the values of the variables of an atom, in their order, one for each way."""
        return self._groups(atom, [], in_order([atom]), [()])[()]

    def _groups(self, atom, known, fresh, keys):
        """Return a dict of the keys, tuples of values of the known variables, and the ways to lay the atom with them.

        Each of these ways is a tuple of the values of the fresh variables.
        """
        groups = {key: [] for key in keys}
        spots, fixed = self._spots(atom)
        wanted = [({row[at]: True for row in groups}, spots[name][0]) for at, name in enumerate(known)]
        for sheaf in self.sheaves[kind_of(atom)]:
            mask = sheaf.fitting(list(spots.values()), fixed) if groups else 0
            if mask:
                places = sheaf.places(mask)
                for numbers, spot in wanted:
                    column = sheaf.columns[spot]
                    places = [place for place in places if column[place] in numbers]
                found = sheaf.rows([spots[name][0] for name in known], places)
                ways = sheaf.rows([spots[name][0] for name in fresh], places)
                for key, way in zip(found, ways):
                    if key in groups:
                        groups[key].append(way)
        return groups

    def _spots(self, atom):
        """Return a dict of the variables of an atom and lists of their spots, and a list of spots and fixed values."""
        spots = {}
        fixed = []
        for spot, term in leaves(atom):
            if isinstance(term, str):
                spots.setdefault(term, []).append(spot)
            else:
                fixed.append((spot, self.source.value(term)))
        return spots, fixed


def told_facts(values, facts, book):
    """Return the facts that the book tells of these ones; raise TooMany as its ways do."""
    ground = Ground(values, facts, [atom for body, _ in book for atom in body])
    told = {}
    for body, heads in book:
        variables, ways = ground.ways(body, in_order(heads))
        for head in heads:
            own = in_order([head])
            unlike = list({row: True for row in _chosen(ways, variables, own)})
            rows = told.setdefault(kind_of(head), {})
            for row in values.rows(head, own, unlike):
                rows[row] = True
    return {kind: list(rows) for kind, rows in told.items() if rows}


def _chosen(rows, variables, names):
    """Return the list of the tuples of the values of these variables in each of the rows."""
    places = [variables.index(name) for name in names]
    return [tuple([row[place] for place in places]) for row in rows]
