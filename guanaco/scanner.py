"""Reading numbers, strings and signs of a text that the program itself has written (points 113 and 132)."""

from guanaco.errors import GuanacoError
from guanaco.tokens import DIGITS, ESCAPES, LOWER, MOST_DIGITS


class Unreadable(GuanacoError):
    """A text is not written as it must be."""


class Scanner:
    """A text and the index of the next character."""

    def __init__(self, text):
        self.text = text
        self.at = 0

    def sign(self):
        """The next character; it is empty at the end."""
        return self.text[self.at:self.at + 1]

    def skip(self, word):
        """Reads a word if it comes next, and tells whether it did."""
        if not self.text.startswith(word, self.at):
            return False
        self.at += len(word)
        return True

    def expect(self, word):
        """Reads a word that must come next."""
        demand(self.skip(word))

    def run_of(self, signs):
        """Reads all characters that come next and are among signs."""
        start = self.at
        while self.at < len(self.text) and self.text[self.at] in signs:
            self.at += 1
        return self.text[start:self.at]

    def natural(self):
        """Reads a number from 0."""
        digits = self.run_of(DIGITS)
        demand(0 < len(digits) <= MOST_DIGITS and (digits == "0" or digits[0] != "0"))
        return int(digits)

    def integer(self):
        """Reads an integer."""
        return self.negative() if self.skip("-") else self.natural()

    def negative(self):
        """Reads a negative integer behind its minus."""
        number = self.natural()
        demand(number > 0)
        return -number

    def word(self):
        """Reads small letters."""
        return self.run_of(LOWER)

    def quoted(self):
        """Reads a string in quotation marks."""
        self.expect("\"")
        found = []
        while not self.skip("\""):
            sign = self.sign()
            self.at += 1
            if sign == "\\":
                sign = ESCAPES.get(self.sign(), "")
                self.at += 1
            demand(sign != "")
            found.append(sign)
        return "".join(found)

    def finish(self):
        """Makes sure that the whole text was read."""
        demand(self.at == len(self.text))


def demand(test):
    """The text is not written as it must be unless a test holds."""
    if not test:
        raise Unreadable("the text is not written so")
