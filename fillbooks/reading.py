"""A reader of the texts of terms and atoms."""

from fillbooks.errors import InvalidText
from fillbooks.terms import LONGEST_NAME, LONGEST_VARIABLE, NAME_SIGNS, VARIABLE_SIGNS


class Reader:
    """A text and the place up to which it is read.

    Each method that reads raises InvalidText with the place of the first character that cannot
    stand there. Nothing of what is read is looked at for its numbers: how many terms, how deep.
    """

    def __init__(self, text):
        self.text = text
        self.at = 0

    def term(self):
        """Read a term with the blanks at both ends.

        What has its bracket still open waits in a list, so that brackets may stand deeper than
        calls may.
        """
        waiting = []
        while True:
            told = self._variable_or_name()
            if not isinstance(told, str) and self._sign() == "(":
                self.at += 1
                waiting.append((told[0], []))
                continue
            while waiting:
                waiting[-1][1].append(told)
                if self._sign() == ",":
                    break
                self.take(")")
                name, parts = waiting.pop()
                told = name, tuple(parts)
                self._pass_blanks()
            if not waiting:
                return told
            self.take(",")

    def atoms(self):
        """Read one atom or more, with a comma between, and the blanks at both ends; return a tuple."""
        found = [self._atom()]
        while self._sign() == ",":
            self.at += 1
            found.append(self._atom())
        return tuple(found)

    def take(self, sign):
        """Read this one sign."""
        if self._sign() != sign:
            raise InvalidText(self.at)
        self.at += 1

    def end(self):
        """Raise InvalidText if anything is left."""
        if self.at < len(self.text):
            raise InvalidText(self.at)

    def _atom(self):
        self._pass_blanks()
        start = self.at
        self._word(NAME_SIGNS, LONGEST_NAME)
        self._pass_blanks()
        if self._sign() != "(":
            raise InvalidText(self.at)
        self.at = start
        return self.term()

    def _variable_or_name(self):
        """Read a variable, or a name, told as a constant, with the blanks at both ends."""
        self._pass_blanks()
        if self._stands_in(VARIABLE_SIGNS):
            told = self._word(VARIABLE_SIGNS, LONGEST_VARIABLE)
        else:
            told = self._word(NAME_SIGNS, LONGEST_NAME), ()
        self._pass_blanks()
        return told

    def _word(self, signs, longest):
        """Read a word of these signs.

        Whatever reads on takes no other sign of a word behind it: one that is too much, or of the
        other sort, is wrong there.
        """
        start = self.at
        while self._stands_in(signs) and self.at < start + longest:
            self.at += 1
        if self.at == start:
            raise InvalidText(self.at)
        return self.text[start:self.at]

    def _sign(self):
        """Return the sign that comes; the empty string at the end."""
        return self.text[self.at:self.at + 1]

    def _stands_in(self, signs):
        sign = self._sign()
        return sign != "" and sign in signs

    def _pass_blanks(self):
        while self._sign() == " ":
            self.at += 1
