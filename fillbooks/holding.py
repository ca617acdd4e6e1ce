"""Rules that hold other rules: of whatever the other one tells a fact, the one tells it, too.

Here a rule has one head and stands in rows (see rows.py), together with all others that are
looked at: a tuple of the list of the numbers of the atoms of its body, each once, and the number
of its head. The variables of a rule that is held are not put in: they stand for constants of
their own, also where the rule that holds it has variables of the same names.
"""

from fillbooks.rows import as_one
from fillbooks.unifying import merged_rows


def in_rows(rules):
    """Return the rows of these rules of one head each, and the list of the rules in these rows."""
    return from_merged([merged_rows(body + heads, [], None) for body, heads in rules])


def from_merged(merged):
    """Return one list of rows for several rules, and the list of the rules in it.

    Each one is passed as merged_rows told of the atoms of its body and, behind them, its head.
    """
    rows, told = as_one([(own, places) for own, _, places in merged])
    return rows, [(sorted(set(numbers[:-1])), numbers[-1]) for numbers in told]


def holds(rows, one, other):
    """Tell whether the rule `one` tells the head of the rule `other` of its body."""
    start = ways_to_be(rows, one[1], other[1])
    if start is None:
        return False
    choices = []
    for atom in one[0]:
        ways = [_carried_on(start, ways_to_be(rows, atom, fact)) for fact in other[0]]
        ways = [way for way in ways if way is not None]
        if not ways:
            return False
        choices.append(ways)
    return all([_can_agree(group) for group in _groups(choices)])


def any_holds(rows, rules, other):
    """Tell whether one of these rules holds the other one."""
    for rule in rules:
        if holds(rows, rule, other):
            return True
    return False


def least_rules(rows, rules):
    """Return the fewest rules with the fewest atoms that tell what these rules tell."""
    kept = []
    for rule in rules:
        if not any_holds(rows, kept, rule):
            kept = [other for other in kept if not holds(rows, rule, other)] + [rule]
    return [_without_needless_atoms(rows, rule) for rule in kept]


def ways_to_be(rows, part, other):
    """Return what has to be put for the variables of a term by which it is the other one; None if it cannot be.

    What is told is a dict of the numbers of rows. Each row of the term is looked at once: it can
    be made one thing only.
    """
    found = {}
    todo = [(part, other)]
    while todo:
        number, aim = todo.pop()
        if number in found:
            if found[number] != aim:
                return None
            continue
        found[number] = aim
        told, wanted = rows[number], rows[aim]
        if isinstance(told, str):
            continue
        if isinstance(wanted, str) or told[0] != wanted[0] or len(told[1]) != len(wanted[1]):
            return None
        todo.extend(list(zip(told[1], wanted[1])))
    return {number: aim for number, aim in found.items() if isinstance(rows[number], str)}


def _carried_on(start, way):
    """Return what a way puts for more variables than the start does; None if there is no way, or they do not agree."""
    if way is None or not _agree(start, way):
        return None
    return {number: aim for number, aim in way.items() if number not in start}


def _agree(one, other):
    """Tell whether two dicts put the same for the variables that they both have."""
    return all([other.get(number, aim) == aim for number, aim in one.items()])


def _groups(choices):
    """Return the lists of ways in groups: those of unlike groups have no variable in common."""
    groups = []
    for ways in choices:
        near = [group for group in groups if _has_to_do_with(group, ways)]
        far = [group for group in groups if not _has_to_do_with(group, ways)]
        groups = far + [[other for group in near for other in group] + [ways]]
    return groups


def _has_to_do_with(group, ways):
    """Tell whether a list of ways has a variable in common with one of the group; all ways of a list have the same."""
    return any([number in other[0] for other in group for number in ways[0]])


def _can_agree(choices):
    """Tell whether one way can be taken of each list so that all of them agree."""
    if not choices:
        return True
    first, *others = sorted(choices, key=len)
    for way in first:
        rest = [[other for other in ways if _agree(way, other)] for ways in others]
        if all([len(ways) > 0 for ways in rest]) and _can_agree(rest):
            return True
    return False


def _without_needless_atoms(rows, rule):
    """Return the rule with as few atoms in its body as tell no more than it does.

    An atom that cannot be left out cannot be left out of what is left of the body, either.
    """
    body, head = rule
    for atom in list(body):
        rest = [other for other in body if other != atom]
        if holds(rows, (body, head), (rest, head)):
            body = rest
    return body, head
