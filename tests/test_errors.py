import unittest

from fillbooks import errors
from fillbooks.errors import FillError, InvalidLine, InvalidText

PLAIN = [
    "InvalidTerm", "InvalidWays", "InvalidPairs", "InvalidRule", "InvalidBook", "InvalidStore", "TooMany",
    "InvalidRelations", "InvalidRelation", "InvalidRow", "NotPlain", "InvalidQuestion", "InvalidFact",
    "InvalidChange", "InvalidNumber", "FactStands", "NoSuchFact", "NothingToUndo", "NothingToRedo", "UnknownDeed",
]
INTEGERS = [0, 1, 20000, -1, 10 ** 30, 10 ** 6000]


class TestErrors(unittest.TestCase):
    def test_all_of_them_are_defined_there(self):
        defined = [name for name, value in vars(errors).items() if isinstance(value, type)]
        self.assertEqual(sorted(defined), sorted(PLAIN + ["FillError", "InvalidText", "InvalidLine"]))
        for name in defined:
            self.assertEqual(getattr(errors, name).__module__, "fillbooks.errors")

    def test_the_base_is_a_value_error(self):
        self.assertEqual(FillError.__bases__, (ValueError,))
        self.assertIsInstance(FillError(), ValueError)
        self.assertEqual(str(FillError("some words")), "some words")

    def test_made_without_an_argument_and_with_one_string(self):
        for name in PLAIN:
            kind = getattr(errors, name)
            with self.subTest(name):
                for made in (kind(), kind("some words"), kind("")):
                    self.assertIsInstance(made, kind)
                    self.assertIsInstance(made, FillError)
                    self.assertIsInstance(made, ValueError)
                self.assertEqual(str(kind("some words")), "some words")
                with self.assertRaises(kind):
                    raise kind("some words")

    def test_none_is_of_another_kind(self):
        names = PLAIN + ["InvalidText", "InvalidLine"]
        for name in names:
            for other in names:
                with self.subTest(name=name, other=other):
                    self.assertEqual(issubclass(getattr(errors, name), getattr(errors, other)), name == other)

    def test_invalid_text(self):
        for at in INTEGERS:
            for made in (InvalidText(at), InvalidText(at=at)):
                self.assertEqual(made.at, at)
                self.assertEqual(list(vars(made)), ["at"])
                self.assertIsInstance(made, FillError)
                self.assertIsInstance(made, ValueError)
        with self.assertRaises(InvalidText) as caught:
            raise InvalidText(7)
        self.assertEqual(caught.exception.at, 7)
        self.assertRaises(TypeError, InvalidText)

    def test_invalid_line(self):
        for line in INTEGERS:
            for reason in ("fact", "", "x" * 2000):
                for made in (InvalidLine(line, reason), InvalidLine(line=line, reason=reason),
                             InvalidLine(reason=reason, line=line), InvalidLine(line, reason=reason)):
                    self.assertEqual((made.line, made.reason), (line, reason))
                    self.assertEqual(sorted(vars(made)), ["line", "reason"])
                    self.assertIsInstance(made, FillError)
                    self.assertIsInstance(made, ValueError)
        with self.assertRaises(InvalidLine) as caught:
            raise InvalidLine(3, "twice")
        self.assertEqual((caught.exception.line, caught.exception.reason), (3, "twice"))
        self.assertRaises(TypeError, InvalidLine, 3)


if __name__ == "__main__":
    unittest.main()
