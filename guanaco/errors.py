"""The errors that the program raises."""


class GuanacoError(ValueError):
    """The base class of all errors that the program raises."""


class LimitError(GuanacoError):
    """A text or a tree is beyond a limit of point 3, or a program is too large."""


class TokenError(GuanacoError):
    """No token can be read at the index `at` of a text."""

    def __init__(self, at):
        GuanacoError.__init__(self, f"no token can be read at {at}")
        self.at = at


class ParseError(GuanacoError):
    """The token at the index `at` cannot follow what was read."""

    def __init__(self, at):
        GuanacoError.__init__(self, f"what is at {at} cannot follow")
        self.at = at


class CheckError(GuanacoError):
    """The outermost declaration with the index `number` is rejected."""

    def __init__(self, number):
        GuanacoError.__init__(self, f"declaration {number} is rejected")
        self.number = number


class ScopeError(CheckError):
    """A name is not in scope, or stands where it must not."""


class Mismatch(CheckError):
    """An expression has no type."""


class Uncovered(CheckError):
    """No rule of a match fits the values of the pattern `missing`."""

    def __init__(self, number, missing):
        CheckError.__init__(self, number)
        self.missing = missing


class Unused(CheckError):
    """A rule of a match is never taken."""


class SignatureError(CheckError):
    """A structure does not match a signature, or a `where` does not fit."""


class CodeError(GuanacoError):
    """A text is no code."""


class LinkError(GuanacoError):
    """Objects cannot be linked, or a text is no object; `reason` tells why."""

    def __init__(self, reason):
        GuanacoError.__init__(self, f"cannot be linked: {reason}")
        self.reason = reason
