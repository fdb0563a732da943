"""A place in the tokens of a text, from which a parser reads on."""

from guanaco.errors import LimitError, ParseError
from guanaco.tokens import read_tokens

MOST_OPEN = 60


class Cursor:
    """The tokens of a text and the next one to read.

    The mark of a token is its text for words and signs, and its kind for all others. The mark behind
    the last token is empty.
    """

    def __init__(self, text):
        self.tokens = read_tokens(text)
        self.length = len(text)
        self.at = -1
        self.constructs = 0
        self.mark = ""
        self.step()

    def step(self):
        """Goes to the next token."""
        self.at += 1
        self.mark = ""
        if self.at < len(self.tokens):
            kind, text, _ = self.tokens[self.at]
            self.mark = text if kind in ("word", "sign") else kind

    def place(self):
        """The index in the text of the next token, or the length of the text behind the last one."""
        if self.at < len(self.tokens):
            return self.tokens[self.at][2]
        return self.length

    def take(self):
        """Reads the next token and returns its text."""
        text = self.tokens[self.at][1]
        self.step()
        return text

    def expect(self, mark):
        """Reads the next token, which must have this mark, and returns its text."""
        if self.mark != mark:
            raise ParseError(self.place())
        return self.take()

    def skip(self, mark):
        """Reads the next token if it has this mark, and tells whether it had."""
        if self.mark != mark:
            return False
        self.step()
        return True

    def begin(self, mark):
        """Reads a token that begins a construct."""
        if self.mark != mark:
            raise ParseError(self.place())
        if self.constructs == MOST_OPEN:
            raise LimitError("too many constructs are open")
        self.constructs += 1
        self.step()

    def leave(self):
        """Ends the construct that was begun last."""
        self.constructs -= 1

    def shut(self, mark):
        """Reads the token that ends the construct that was begun last."""
        self.expect(mark)
        self.leave()

    def finish(self):
        """Makes sure that all tokens were read."""
        if self.mark != "":
            raise ParseError(self.place())


def read_path(cursor, last):
    """A path whose last part is of one of the kinds in `last`; all others are high."""
    parts = []
    while cursor.mark == "high":
        parts.append(cursor.take())
        if cursor.mark != "." and "high" in last:
            return tuple(parts)
        cursor.expect(".")
    if cursor.mark != "low" or "low" not in last:
        raise ParseError(cursor.place())
    parts.append(cursor.take())
    return tuple(parts)
