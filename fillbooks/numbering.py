"""Values of any size, each with a number of its own.

Equal values have equal numbers, so that two of them are compared at once, however great they are;
what stands in a value has a smaller number than it. A kind is a name and how many things stand
behind it: that of a value, or the relation of a fact. Facts are told as a dict of their kinds and
lists of tuples of the numbers of their values, each fact once.
"""

from fillbooks.terms import in_order
from fillbooks.texts import text_of


class Values:
    """The values that were looked at, by their numbers: their kinds, what stands right in them, their names."""

    def __init__(self):
        self.numbers = {}
        self.kinds = []
        self.parts = []
        self.sizes = []

    def number(self, kind, parts):
        """Return the number of the value of this kind, in which the values with these numbers stand."""
        known = self.numbers.setdefault(kind, {})
        if parts not in known:
            known[parts] = len(self.parts)
            self.kinds.append(kind)
            self.parts.append(parts)
            self.sizes.append(1 + sum([self.sizes[part] for part in parts]))
        return known[parts]

    def value(self, term):
        """Return the number of a term without variables."""
        return self.number(kind_of(term), tuple([self.value(part) for part in term[1]]))

    def facts(self, store):
        """Return the facts of a store."""
        found = {}
        for relation, terms in store:
            rows = found.setdefault((relation, len(terms)), {})
            rows[tuple([self.value(term) for term in terms])] = True
        return {kind: list(rows) for kind, rows in found.items()}

    def rows(self, atom, variables, ways):
        """Return the list of what comes of an atom by each of these ways: rows of the values of the variables."""
        if not ways:
            return []
        lists = list(zip(*ways))
        columns = {name: lists[variables.index(name)] for name in in_order([atom])}
        inner = [self._column(term, columns, len(ways)) for term in atom[1]]
        return list(zip(*inner))

    def names_of(self, row):
        """Return how many names a fact has, that of its relation counted."""
        return 1 + sum([self.sizes[number] for number in row])

    def written(self, facts):
        """Return the ascending list of these facts, written out."""
        terms = self.terms([number for rows in facts.values() for row in rows for number in row])
        told = [(kind[0], tuple([terms[number] for number in row])) for kind, rows in facts.items() for row in rows]
        return sorted(told)

    def terms(self, numbers):
        """Return a dict of these numbers, and of those of all that stands in their values, and the values."""
        wanted = {number: True for number in numbers}
        for number in reversed(range(len(self.parts))):
            if number in wanted:
                for part in self.parts[number]:
                    wanted[part] = True
        terms = {}
        for number in sorted(wanted):
            terms[number] = self.kinds[number][0], tuple([terms[part] for part in self.parts[number]])
        return terms

    def _column(self, term, columns, many):
        """Return the list of what comes of a term in each of so many rows.

        columns is a dict of such lists, by the texts of the terms; it takes up what is found, so
        that what stands at several places is looked at once.
        """
        text = text_of(term)
        if text not in columns:
            inner = [self._column(part, columns, many) for part in term[1]]
            kind = kind_of(term)
            columns[text] = self._made(kind, inner) if inner else [self.number(kind, ())] * many
        return columns[text]

    def _made(self, kind, inner):
        known = self.numbers.setdefault(kind, {})
        return [known[row] if row in known else self.number(kind, row) for row in zip(*inner)]


def kind_of(term):
    """Return the name of a made thing, a constant or an atom, and how many terms stand in it."""
    return term[0], len(term[1])
