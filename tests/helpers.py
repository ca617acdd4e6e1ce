"""What several tests use: a limit of time, invalid values, terms of a wanted size, drawn terms."""

import contextlib
import copy
import signal


class TooSlow(AssertionError):
    """A call did not return within a few seconds."""


@contextlib.contextmanager
def within_seconds(seconds=4):
    """Raise TooSlow in the block if it has not ended by then."""

    def stop(number, frame):
        raise TooSlow(f"longer than {seconds} seconds")

    before = signal.signal(signal.SIGALRM, stop)
    signal.alarm(seconds)
    try:
        yield
    finally:
        signal.alarm(0)
        signal.signal(signal.SIGALRM, before)


def chain(levels, name="f", inmost=("c", ())):
    """A term of so many levels, each with one term in it."""
    term = inmost
    for _ in range(levels - 1):
        term = (name, (term,))
    return term


def full_term(size, inmost="X"):
    """A term of 5 levels or fewer with just so many names and variables (at most 341 of them)."""
    def build(many):
        if many == 1:
            return inmost
        rest = many - 1
        parts = min(4, rest)
        shares = [rest // parts + (1 if k < rest % parts else 0) for k in range(parts)]
        return ("f", tuple(build(share) for share in shares))
    return build(size)


def count(term):
    """The names and variables of a term."""
    if isinstance(term, str):
        return 1
    return 1 + sum(count(part) for part in term[1])


def levels(term):
    """The levels of a term."""
    if isinstance(term, str) or not term[1]:
        return 1
    return 1 + max(levels(part) for part in term[1])


def nested(depth, wrap):
    """A thing of tuples, lists or dicts, nested so deep."""
    thing = "X"
    for _ in range(depth):
        thing = wrap(thing)
    return thing


def wide(depth):
    """A term in form, of doubling parts: far beyond the numbers, shared in memory."""
    term = "X"
    for _ in range(depth):
        term = ("f", (term, term))
    return term


# What is a term, at the edges of the numbers.
GOOD_TERMS = [
    "A", "Z", "ABC", "ZZZ", "XX",
    ("a", ()), ("z", ()), ("0", ()), ("9", ()), ("abcdefgh", ()), ("12345678", ()), ("a0z9", ()),
    ("f", ("X",)), ("f", ("X", "X", "X", "X")), ("f", (("f", ()), "X")), ("f", (("f", ("X",)), "X")),
    chain(6), chain(6, inmost="X"), chain(5), full_term(30), full_term(30, ("a", ())), full_term(29),
]

# What is none.
BAD_TERMS = [
    None, True, False, 0, 1, -7, 10 ** 29, "", "a", "x1", "ABCD", "Ab", "aB", "A1", "A B", " A", "A ", "A\n",
    "A\t", "_", "X" * 2000, "f(X)", [], ["a", ()], ["X"], {}, {"X": "X"}, (), ("X",), ("a",), ((),), ("a", (), ()),
    ("a", None), ("a", True), ("a", 0), ("a", []), ("a", ["X"]), ("a", {}), ("a", "X"), ("a", "XY"), ("a", ""),
    ("", ()), ("abcdefghi", ()), ("A", ()), ("aB", ()), ("a b", ()), (" a", ()), ("a ", ()), ("a\n", ()), ("a_", ()),
    ("a-", ()), ("a" * 2000, ()), (None, ()), (True, ()), (1, ()), ((), ()), (("a", ()), ()), (["a"], ()),
    ("f", ("X", "X", "X", "X", "X")), ("f", ("a",)), ("f", ("",)), ("f", ("ABCD",)), ("f", (None,)), ("f", (True,)),
    ("f", (0,)), ("f", ("X", None)), ("f", ("X", ["Y"])), ("f", ("X", ("g", ["Y"]))), ("f", ((),)), ("f", (("g",),)),
    ("f", ("X", "Y"), "Z"), ("f", "X", "Y"), ("X", "Y"),
    chain(7), chain(7, inmost="X"), chain(25), full_term(31), full_term(31, ("a", ())), full_term(60), wide(5),
    nested(50, lambda thing: (thing,)), nested(50, lambda thing: [thing]), nested(50, lambda thing: {"X": thing}),
    nested(24, lambda thing: ("f", (thing,))), nested(16, lambda thing: ("f", [thing])),
    nested(11, lambda thing: ("f", (thing, thing))), ["X"] * 200, ("X",) * 200, ("f", ("X",) * 199),
    nested(6, lambda thing: (thing, thing, thing, thing)),
]


def unchanged(test, call, *arguments):
    """Call it, and have the test fail if an argument is changed; return the answer."""
    before = copy.deepcopy(arguments)
    answer = call(*arguments)
    test.assertEqual(repr(arguments), repr(before))
    return answer


def drawn_term(draw, variables, deep, names=(("a", 0), ("b", 0), ("f", 1), ("f", 2), ("g", 2), ("h", 3))):
    """A drawn term of at most so many levels."""
    if draw.random() < 0.5:
        return draw.choice(variables)
    name, many = draw.choice([row for row in names if row[1] == 0 or deep > 1])
    return (name, tuple(drawn_term(draw, variables, deep - 1, names) for _ in range(many)))
