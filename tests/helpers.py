"""What several tests use: a limit of time, invalid values, things of a wanted size, drawn things, slow answers."""

import contextlib
import copy
import itertools
import signal

from fillbooks.texts import read_rule, read_term


class TooSlow(AssertionError):
    """A call did not return within a few seconds."""


@contextlib.contextmanager
def within_seconds(seconds=4):
    """Raise TooSlow in the block if it has not ended by then."""

    def stop(number, frame):
        raise TooSlow(f"longer than {seconds} seconds")

    before = signal.signal(signal.SIGALRM, stop)
    signal.alarm(seconds)
    try:
        yield
    finally:
        signal.alarm(0)
        signal.signal(signal.SIGALRM, before)


def chain(levels, name="f", inmost=("c", ())):
    """A term of so many levels, each with one term in it."""
    term = inmost
    for _ in range(levels - 1):
        term = (name, (term,))
    return term


def full_term(size, inmost="X"):
    """A term of 5 levels or fewer with just so many names and variables (at most 341 of them)."""
    def build(many):
        if many == 1:
            return inmost
        rest = many - 1
        parts = min(4, rest)
        shares = [rest // parts + (1 if k < rest % parts else 0) for k in range(parts)]
        return ("f", tuple(build(share) for share in shares))
    return build(size)


def count(term):
    """The names and variables of a term."""
    if isinstance(term, str):
        return 1
    return 1 + sum(count(part) for part in term[1])


def levels(term):
    """The levels of a term."""
    if isinstance(term, str) or not term[1]:
        return 1
    return 1 + max(levels(part) for part in term[1])


def nested(depth, wrap):
    """A thing of tuples, lists or dicts, nested so deep."""
    thing = "X"
    for _ in range(depth):
        thing = wrap(thing)
    return thing


def wide(depth):
    """A term in form, of doubling parts: far beyond the numbers, shared in memory."""
    term = "X"
    for _ in range(depth):
        term = ("f", (term, term))
    return term


# What is a term, at the edges of the numbers.
GOOD_TERMS = [
    "A", "Z", "ABC", "ZZZ", "XX",
    ("a", ()), ("z", ()), ("0", ()), ("9", ()), ("abcdefgh", ()), ("12345678", ()), ("a0z9", ()),
    ("f", ("X",)), ("f", ("X", "X", "X", "X")), ("f", (("f", ()), "X")), ("f", (("f", ("X",)), "X")),
    chain(6), chain(6, inmost="X"), chain(5), full_term(30), full_term(30, ("a", ())), full_term(29),
]

# What is none.
BAD_TERMS = [
    None, True, False, 0, 1, -7, 10 ** 29, "", "a", "x1", "ABCD", "Ab", "aB", "A1", "A B", " A", "A ", "A\n",
    "A\t", "_", "X" * 2000, "f(X)", [], ["a", ()], ["X"], {}, {"X": "X"}, (), ("X",), ("a",), ((),), ("a", (), ()),
    ("a", None), ("a", True), ("a", 0), ("a", []), ("a", ["X"]), ("a", {}), ("a", "X"), ("a", "XY"), ("a", ""),
    ("", ()), ("abcdefghi", ()), ("A", ()), ("aB", ()), ("a b", ()), (" a", ()), ("a ", ()), ("a\n", ()), ("a_", ()),
    ("a-", ()), ("a" * 2000, ()), (None, ()), (True, ()), (1, ()), ((), ()), (("a", ()), ()), (["a"], ()),
    ("f", ("X", "X", "X", "X", "X")), ("f", ("a",)), ("f", ("",)), ("f", ("ABCD",)), ("f", (None,)), ("f", (True,)),
    ("f", (0,)), ("f", ("X", None)), ("f", ("X", ["Y"])), ("f", ("X", ("g", ["Y"]))), ("f", ((),)), ("f", (("g",),)),
    ("f", ("X", "Y"), "Z"), ("f", "X", "Y"), ("X", "Y"),
    chain(7), chain(7, inmost="X"), chain(25), full_term(31), full_term(31, ("a", ())), full_term(60), wide(5),
    nested(50, lambda thing: (thing,)), nested(50, lambda thing: [thing]), nested(50, lambda thing: {"X": thing}),
    nested(24, lambda thing: ("f", (thing,))), nested(16, lambda thing: ("f", [thing])),
    nested(11, lambda thing: ("f", (thing, thing))), ["X"] * 200, ("X",) * 200, ("f", ("X",) * 199),
    nested(6, lambda thing: (thing, thing, thing, thing)),
]


def unchanged(test, call, *arguments):
    """Call it, and have the test fail if an argument is changed; return the answer."""
    before = copy.deepcopy(arguments)
    answer = call(*arguments)
    test.assertEqual(repr(arguments), repr(before))
    return answer


def drawn_term(draw, variables, deep, names=(("a", 0), ("b", 0), ("f", 1), ("f", 2), ("g", 2), ("h", 3))):
    """A drawn term of at most so many levels."""
    if draw.random() < 0.5:
        return draw.choice(variables)
    name, many = draw.choice([row for row in names if row[1] == 0 or deep > 1])
    return (name, tuple(drawn_term(draw, variables, deep - 1, names) for _ in range(many)))


A, B, C = ("a", ()), ("b", ()), ("c", ())


def atom(relation, *terms):
    return (relation, terms)


def atoms(many, relation="p", term="X"):
    """A tuple of so many unlike atoms, with this term in each of them."""
    return tuple((relation, (term, (f"n{k}", ()))) for k in range(many))


def rule_of(body, heads):
    """A rule of so many atoms in its body and so many heads."""
    return (atoms(body), atoms(heads, "q"))


def book_of(rules, heads):
    """A book of so many rules with so many heads altogether, spread as evenly as can be."""
    shares = [heads // rules + (1 if k < heads % rules else 0) for k in range(rules)]
    return tuple((atoms(1, f"p{k}"), atoms(share, "q")) for k, share in enumerate(shares))


def renamed(term, ways):
    """The term, or the atom, with these variables put for its variables, where they are told."""
    if isinstance(term, str):
        return ways.get(term, term)
    return (term[0], tuple(renamed(part, ways) for part in term[1]))


def variables_of(term):
    """The set of the variables of a term or an atom."""
    return {term} if isinstance(term, str) else {name for part in term[1] for name in variables_of(part)}


SMALL_RULE = ((("p", ("X",)),), (("q", ("X",)),))

GOOD_ATOMS = [("p", ("X",) * many) for many in range(1, 5)] + [("abcdefgh", (A,)), ("0", ("XYZ",))]
GOOD_ATOMS += [("p", (term,)) for term in GOOD_TERMS] + [("p", (full_term(30),) * 4), ("p", (chain(6),) * 4)]

BAD_ATOMS = [
    None, True, False, 0, 10 ** 29, "", "X", "p(X)", "p", [], (), {}, ("p",), ("p", ()), ("p", ("X",) * 5), ["p", ("X",)],
    ("p", ["X"]), ("p", "X"), ("p", "XY"), ("p", None), ("p", {"X": "X"}), ("p", ("X",), ()), ("X", ("X",)), ("", ("X",)),
    ("abcdefghi", ("X",)), ("P", ("X",)), (None, ("X",)), (1, ("X",)), (True, ("X",)), (A, ("X",)), ((), ("X",)), ("p", "X", "Y"),
    ("p", (None,)), ("p", ("X", None)), ("p", (True,)), ("p", (("f", ["X"]),)), ("p", ("X",) * 199), ("p q", ("X",)),
]
BAD_ATOMS += [("p", (term,)) for term in BAD_TERMS] + [("p", ("X", A, "Y", term)) for term in BAD_TERMS[::3]]

GOOD_RULES = [rule_of(body, heads) for body in range(1, 5) for heads in range(1, 4)]
GOOD_RULES += [((atom,), (atom,)) for atom in GOOD_ATOMS] + [((("p", ("X", "Y")),) * 4, (("q", (A,)),) * 3)]
GOOD_RULES += [((("p", (A,)),), (("p", (A,)),)), ((("p", ("X",)), ("p", ("Y",))), (("q", ("Y", "X")), ("q", ("X",))))]

BAD_RULES = [
    None, True, False, 0, 7, "", "X", "p(X) -> q(X)", [], (), {}, ((), ()), SMALL_RULE[:1], SMALL_RULE + ((),), list(SMALL_RULE),
    (SMALL_RULE[0], list(SMALL_RULE[1])), (list(SMALL_RULE[0]), SMALL_RULE[1]), (SMALL_RULE[0], None), (None, SMALL_RULE[1]),
    (SMALL_RULE[0], ()), ((), SMALL_RULE[1]), ((), (("q", (A,)),)), (True, False), (SMALL_RULE, SMALL_RULE), (SMALL_RULE,),
    (("p", ("X",)), ("q", ("X",))), {SMALL_RULE[0]: SMALL_RULE[1]}, "XY", rule_of(5, 1), rule_of(4, 4), rule_of(1, 4), rule_of(5, 3),
    rule_of(199, 1), rule_of(1, 199), ((("p", ("X",)),), (("q", ("Y",)),)), ((("p", (A,)),), (("q", ("X",)),)),
    ((("p", ("X", "Y")),), (("q", ("X",)), ("q", ("Y",)), ("q", ("XY",)))), ((("p", ("X",)),), (("q", (("f", ("X", "Z")),)),)),
    nested(50, lambda thing: (thing,)), nested(20, lambda thing: (thing, (thing,)) if thing == "X" else (thing, ())),
    (nested(12, lambda thing: ("f", (thing, thing))),) * 2,
]
BAD_RULES += [((bad,), SMALL_RULE[1]) for bad in BAD_ATOMS] + [(SMALL_RULE[0], (bad,)) for bad in BAD_ATOMS]
BAD_RULES += [(SMALL_RULE[0] + (bad,), SMALL_RULE[1]) for bad in BAD_ATOMS[::4]]
BAD_RULES += [(SMALL_RULE[0], SMALL_RULE[1] + (bad,)) for bad in BAD_ATOMS[::4]]

GOOD_BOOKS = [(), (SMALL_RULE,), (SMALL_RULE,) * 24, book_of(24, 24), book_of(8, 24), book_of(10, 24), book_of(1, 3), book_of(23, 24)]

BAD_BOOKS = [
    None, True, False, 0, 7, "", "X", "p(X) -> q(X)\n", [], {}, [SMALL_RULE], list(book_of(3, 3)), SMALL_RULE, (SMALL_RULE[0],),
    {SMALL_RULE: True}, (SMALL_RULE,) * 25, (SMALL_RULE,) * 200, book_of(25, 25), book_of(24, 25), book_of(9, 25), book_of(13, 25),
    book_of(24, 72), ((SMALL_RULE,),), ((),), (None,), nested(50, lambda thing: (thing,)),
]
BAD_BOOKS += [(bad,) for bad in BAD_RULES[::3]] + [(SMALL_RULE, bad) for bad in BAD_RULES[1::7]]
BAD_BOOKS += [(bad, SMALL_RULE) for bad in BAD_RULES[2::7]]

GOOD_FACTS = [renamed(atom, {name: A for name in variables_of(atom)}) for atom in GOOD_ATOMS]
BAD_FACTS = BAD_ATOMS + [("p", ("X",)), ("p", (A, "X")), ("p", (("f", (A, ("g", ("ABC",)))),)), ("p", (A, A, A, "Z"))]

GOOD_STORES = [[], [("p", (A,))], [("p", (A,))] * 30, GOOD_FACTS[:30]]
BAD_STORES = [
    None, True, False, 0, 3, "", "X", "p(a)", (), {}, ("p", (A,)), (("p", (A,)),), {("p", (A,)): True}, [[("p", (A,))]], [()], [None],
    [("p", (A,))] * 31, [("p", (A,))] * 200, [("p", ((f"n{k}", ()),)) for k in range(31)], nested(50, lambda thing: [thing]),
]
BAD_STORES += [[bad] for bad in BAD_FACTS] + [[("p", (A,)), bad, ("p", (B,))] for bad in BAD_FACTS[::5]]

BAD_ROWS = [
    None, True, False, 0, 2, "", "X", (), {}, [], ((SMALL_RULE,),), (), [SMALL_RULE], [[]], [[SMALL_RULE]], SMALL_RULE, (SMALL_RULE,),
    [()] * 9, [(SMALL_RULE,)] * 9, [(SMALL_RULE,)] * 200, nested(50, lambda thing: [thing]),
]
BAD_ROWS += [[bad] for bad in BAD_BOOKS] + [[(), bad] for bad in BAD_BOOKS[::4]] + [[bad, ()] for bad in BAD_BOOKS[1::4]]

BAD_NAMES = [None, True, 1, "", "P", "X", "p q", "abcdefghi", "p\n", A, [], ("p",), "p" * 2000]
BAD_NUMBERS = [None, True, False, 0, 5, -1, 10 ** 29, "1", "", (1,), [1], {1: 1}]
BAD_RELATIONS = [
    None, True, False, 0, "", "p", "p1", (), [], {}, ("p",), ("p", 1, 1), ["p", 1], (1, "p"), {"p": 1}, [("p", 1)], (("p", 1),), ("X", "Y"),
    ("p", (A,)), nested(50, lambda thing: (thing,)),
]
BAD_RELATIONS += [(name, 1) for name in BAD_NAMES] + [("p", number) for number in BAD_NUMBERS]


def check_raises(test, error, bad_values, call):
    """Have the test fail if the call, of each of these values, does not raise the error, or changes the value."""
    for value in bad_values:
        with test.subTest(value=str(value)[:300]), within_seconds():
            test.assertRaises(error, unchanged, test, call, value)


def slow_lays(body, store):
    """All ways to lay a body into a store: dicts, each once, found by a look at each choice of facts."""
    found = []
    for choice in itertools.product([fact for at, fact in enumerate(store) if fact not in store[:at]], repeat=len(body)):
        ways = {}
        if all(slow_match(part, fact, ways) for part, fact in zip(body, choice)) and ways not in found:
            found.append(ways)
    return found


def slow_match(part, value, ways):
    if isinstance(part, str):
        return ways.setdefault(part, value) == value
    if part[0] != value[0] or len(part[1]) != len(value[1]):
        return False
    return all(slow_match(inner, other, ways) for inner, other in zip(part[1], value[1]))


def slow_fill(book, store):
    """The filling, in any number of facts of any size."""
    return sorted({renamed(head, ways) for body, heads in book for ways in slow_lays(body, store) for head in heads})


def drawn_rule(draw, variables="XYZ", relations=(("p", 2), ("p", 1), ("r", 1)), told=(("q", 2), ("q", 1)), deep=1, heads=1,
               most=3):
    """A drawn rule; its heads have only variables of its body."""
    body = tuple(drawn_atom(draw, variables, relations, deep) for _ in range(draw.randint(1, most)))
    known = sorted(set().union(*[variables_of(part) for part in body])) or [A]
    return (body, tuple(drawn_atom(draw, known, told, deep) for _ in range(draw.randint(1, heads))))


def drawn_atom(draw, variables, relations, deep=1):
    relation, many = draw.choice(relations)
    return (relation, tuple(drawn_part(draw, variables, deep) for _ in range(many)))


def drawn_part(draw, variables, deep):
    """Mostly a variable."""
    if draw.random() < 0.8:
        return draw.choice(variables)
    return draw.choice([A, B]) if deep == 1 else drawn_term(draw, variables, deep, (("a", 0), ("f", 1), ("g", 2)))


def rules(*texts):
    """A book of these texts."""
    return tuple(map(read_rule, texts))


def facts(*texts):
    """A store of these texts; the text of a fact is read as that of a term."""
    return [read_term(text) for text in texts]


def numbered_facts(many, relation="p"):
    """So many facts of one constant each."""
    return [(relation, ((f"n{k}", ()),)) for k in range(many)]


def frozen(rule):
    """The body, as a store, and the heads of a rule, with a constant of its own for each variable."""
    ways = {name: ("own" + name.lower(), ()) for part in rule[0] for name in variables_of(part)}
    return [renamed(part, ways) for part in rule[0]], [renamed(part, ways) for part in rule[1]]


def slow_never_more(one, other):
    """Whether the other book tells all heads of the bodies of the one, by a look at their fillings."""
    return all(set(frozen(rule)[1]) <= set(slow_fill(other, frozen(rule)[0])) for rule in one)


def slow_alike(one, other):
    return slow_never_more(one, other) and slow_never_more(other, one)


def all_stores(kinds, values, most):
    """All stores of at most so many unlike facts of these relations, with these values, the smallest first."""
    known = [(relation, row) for relation, many in kinds for row in itertools.product(values, repeat=many)]
    return [list(chosen) for many in range(most + 1) for chosen in itertools.combinations(known, many)]


def drawn_store(draw, most=8, values=(A, B, ("f", (A,)), ("g", (A, B)), ("f", (("f", (B,)),))),
                kinds=(("p", 2), ("p", 1), ("r", 1))):
    """A drawn store, perhaps with repetitions."""
    store = []
    for _ in range(draw.randint(0, most)):
        relation, many = draw.choice(kinds)
        store.append((relation, tuple(draw.choice(values) for _ in range(many))))
    return store


def drawn_book(draw, many=3, **wanted):
    """A drawn book of at most so many rules."""
    return tuple(drawn_rule(draw, **wanted) for _ in range(draw.randint(0, many)))


def alike_book(draw, book):
    """A book that fills all stores alike, written in another way."""
    told = []
    for body, heads in book:
        told += [(body, (head,)) for head in heads]
    told += [weaker(draw, draw.choice(told)) for _ in range(draw.randint(0, 2)) if told]
    told = [other_way(draw, part) for part in told]
    draw.shuffle(told)
    return tuple(told)


def weaker(draw, rule):
    """A rule that tells no more: with terms put for some variables, or with one more atom."""
    body, heads = rule
    names = sorted(set().union(*[variables_of(part) for part in body]))
    ways = {name: draw.choice([A, B] + names) for name in names if draw.random() < 0.4}
    body, heads = tuple(renamed(part, ways) for part in body), tuple(renamed(part, ways) for part in heads)
    if len(body) < 4:
        body += (draw.choice([("p", ("W", "V")), ("r", (A,)), ("p", ("W",))]),)
    return (body, heads)


def other_way(draw, rule):
    """The rule with other names for its variables, its body in another order, and perhaps a needless atom."""
    body, heads = list(rule[0]), rule[1]
    if len(body) < 4 and draw.random() < 0.5:
        atom = draw.choice(body)
        kept = set().union(*[variables_of(head) for head in heads])
        fresh = dict(zip(sorted(variables_of(atom) - kept), ["SA", "SB", "SC", "SD"]))
        body.append(renamed(atom, {name: come for name, come in fresh.items() if draw.random() < 0.8}))
    draw.shuffle(body)
    names = sorted(set().union(*[variables_of(part) for part in body]))
    ways = dict(zip(names, draw.sample(["A", "B", "C", "D", "X", "Y", "Z", "AA", "QQQ", "ZZ", "K", "L"], len(names))))
    return (tuple(renamed(part, ways) for part in body), tuple(renamed(part, ways) for part in heads))
