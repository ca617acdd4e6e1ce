"""Bodies laid into facts of values of any size.

Equal values have equal numbers, so that two of them are compared at once, however great they are.
A fact is a tuple of its relation and the numbers of its values here.
"""

from fillbooks.errors import TooMany
from fillbooks.terms import in_order, nth_variable, replaced
from fillbooks.texts import text_of

MOST_WAYS = 1000


class Values:
    """Values, each with a number of its own."""

    def __init__(self):
        self.numbers = {}
        self.made_of = []
        self.terms = []
        self.sizes = []

    def number(self, name, parts):
        """Return the number of the value of this name that is made of the values with these numbers."""
        key = name, parts
        if key not in self.numbers:
            self.numbers[key] = len(self.terms)
            self.made_of.append(key)
            self.terms.append((name, tuple([self.terms[k] for k in parts])))
            self.sizes.append(1 + sum([self.sizes[k] for k in parts]))
        return self.numbers[key]

    def put(self, term, ways):
        """Return the number of what comes of a term, by a dict of its variables and numbers of values."""
        if isinstance(term, str):
            return ways[term]
        return self.number(term[0], tuple([self.put(part, ways) for part in term[1]]))

    def fact(self, atom, ways):
        """Return the fact that comes of an atom, by such a dict."""
        return atom[0], tuple([self.put(term, ways) for term in atom[1]])

    def facts(self, store):
        """Return the list of the facts of a store, each once."""
        return list({self.fact(fact, {}): True for fact in store})

    def names_of(self, fact):
        """Return how many names a fact has, that of its relation counted."""
        return 1 + sum([self.sizes[number] for number in fact[1]])

    def written(self, facts):
        """Return the ascending list of these facts, written out."""
        return sorted([(relation, tuple([self.terms[k] for k in numbers])) for relation, numbers in facts])


class Ground:
    """Facts into which atoms are laid.

    They are found by their relation, and by what stands outermost in one of their values; what is
    found for an atom is kept for all atoms that are like it but for the names of their variables.
    """

    def __init__(self, values, facts):
        self.source = values
        self.kept = {}
        self.rows = {}
        for relation, numbers in facts:
            self.rows.setdefault((relation, len(numbers)), []).append(numbers)
            for place, number in enumerate(numbers):
                name, parts = values.made_of[number]
                self.rows.setdefault((relation, len(numbers), place, name, len(parts)), []).append(numbers)

    def ways(self, body):
        """Return the variables of a body and a list of tuples of the numbers of their values, one for each way.

        Raise TooMany if its first atoms, some number of them, can be laid in more than 1,000 ways.
        """
        variables = []
        ways = [()]
        for atom in body:
            own = in_order([atom])
            known = [k for k, name in enumerate(own) if name in variables]
            groups = self.grouped(atom, known)
            ways = _carried_on(ways, [variables.index(own[k]) for k in known], groups)
            variables = variables + [name for name in own if name not in variables]
        return variables, ways

    def grouped(self, atom, known):
        """Return a dict of the ways to lay the atom, by the values of some of its variables.

        known is the ascending list of the numbers of these variables, in the order in which the
        variables stand in the atom. What stands in the dict are lists of the values of the others.
        """
        own = in_order([atom])
        marks = {name: nth_variable(k) for k, name in enumerate(own)}
        key = text_of(replaced(atom, marks)), tuple(known)
        if key not in self.kept:
            others = [k for k in range(len(own)) if k not in known]
            groups = {}
            for row in self._rows(atom, own):
                groups.setdefault(tuple([row[k] for k in known]), []).append(tuple([row[k] for k in others]))
            self.kept[key] = groups
        return self.kept[key]

    def _rows(self, atom, own):
        """Return a list of tuples of the values of the variables, one for each way to lay the atom."""
        relation, terms = atom
        facts = self._candidates(relation, terms)
        if list(terms) == own:
            return facts
        found = []
        for numbers in facts:
            ways = self._ways_to_be(terms, numbers)
            if ways is not None:
                found.append(tuple([ways[name] for name in own]))
        return found

    def _candidates(self, relation, terms):
        """Return the shortest list of facts among which are all into which such an atom can be laid."""
        many = len(terms)
        lists = [self.rows.get((relation, many), [])]
        for place, term in enumerate(terms):
            if not isinstance(term, str):
                lists.append(self.rows.get((relation, many, place, term[0], len(term[1])), []))
        return min(lists, key=len)

    def _ways_to_be(self, terms, numbers):
        """Return the values of variables by which the terms are those with these numbers; None if there are none."""
        ways = {}
        todo = list(zip(terms, numbers))
        while todo:
            term, number = todo.pop()
            if isinstance(term, str):
                if ways.setdefault(term, number) != number:
                    return None
            else:
                name, parts = self.source.made_of[number]
                if name != term[0] or len(parts) != len(term[1]):
                    return None
                todo.extend(list(zip(term[1], parts)))
        return ways


def told_facts(values, ground, book):
    """Return the list of the facts that the book tells of the ground, each once; raise TooMany as its ways do."""
    found = {}
    for body, heads in book:
        variables, ways = ground.ways(body)
        for head in heads:
            own = in_order([head])
            places = [variables.index(name) for name in own]
            for row in list({tuple([way[k] for k in places]): True for way in ways}):
                found[values.fact(head, dict(zip(own, row)))] = True
    return list(found)


def _carried_on(ways, places, groups):
    """Return the ways, each carried on by those of its group: that of its values at these places."""
    found = []
    for way in ways:
        for more in groups.get(tuple([way[k] for k in places]), []):
            found.append(way + more)
        if len(found) > MOST_WAYS:
            raise TooMany("a body can be laid in too many ways")
    return found
