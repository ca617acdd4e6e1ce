"""The errors of the package: one class for each kind of failure."""


class FillError(ValueError):
    """The base class of all errors of the package."""


class InvalidTerm(FillError):
    """What is passed as a term is none."""


class InvalidWays(FillError):
    """What is passed as a dict of variables and their terms is none."""


class InvalidPairs(FillError):
    """What is passed as a list of pairs is none."""


class InvalidRule(FillError):
    """What is passed as a rule is none."""


class InvalidBook(FillError):
    """What is passed as a book is none."""


class InvalidStore(FillError):
    """What is passed as a store is none."""


class TooMany(FillError):
    """What is asked for would be greater than the document lets."""


# The two errors with attributes keep what they are passed and write no message of their own:
# they take any integers, also those that are too long to be written.


class InvalidText(FillError):
    """What is passed is no such text; `at` is the place of the first wrong character."""

    def __init__(self, at):
        self.at = at


class InvalidRelations(FillError):
    """What is passed as a list of relations is none."""


class InvalidRelation(FillError):
    """What is passed as a relation is none."""


class InvalidRow(FillError):
    """What is passed as a row of books is none."""


class NotPlain(FillError):
    """A book that has to be plain is not."""


class InvalidQuestion(FillError):
    """What is passed as a question is none."""


class InvalidFact(FillError):
    """What is passed as a fact is none."""


class InvalidChange(FillError):
    """What is passed as a change of a store is none."""


class InvalidNumber(FillError):
    """What is passed as the number of a book in a row is none."""


class FactStands(FillError):
    """A fact that is put into a store stands there already."""


class NoSuchFact(FillError):
    """A fact that is struck from a store does not stand there."""


class NothingToUndo(FillError):
    """No deed is left that could be taken back."""


class NothingToRedo(FillError):
    """No deed is left that could be done again."""


class UnknownDeed(FillError):
    """An entry of a list of deeds has none of their forms."""


class InvalidLine(FillError):
    """The line of a paper with the number `line` is wrong, for this `reason`."""

    def __init__(self, line, reason):
        self.line = line
        self.reason = reason
