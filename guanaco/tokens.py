"""Reading the tokens of a text (points 8 and 9)."""

from guanaco.errors import LimitError, TokenError

LONGEST_TEXT = 4000
LONGEST_IDENTIFIER = 24
MOST_DIGITS = 18

LOWER = "abcdefghijklmnopqrstuvwxyz"
UPPER = "ABCDEFGHIJKLMNOPQRSTUVWXYZ"
LETTERS = "abcdefghijklmnopqrstuvwxyzABCDEFGHIJKLMNOPQRSTUVWXYZ"
DIGITS = "0123456789"
TAIL = "abcdefghijklmnopqrstuvwxyzABCDEFGHIJKLMNOPQRSTUVWXYZ0123456789_'"

WORDS = (
    "and", "andalso", "case", "datatype", "div", "else", "end", "exception", "fn", "fun", "functor",
    "handle", "if", "in", "let", "mod", "of", "open", "orelse", "raise", "sig", "signature", "struct",
    "structure", "then", "type", "val", "where",
)
LONG_SIGNS = (":>", "=>", "->", "::", "<=", ">=", "<>", ":=")
SHORT_SIGNS = "()[],;:=|_.*+-^<>!~"
ESCAPES = {"n": "\n", "\\": "\\", "\"": "\""}


def read_tokens(text):
    """The list of the tokens of a text."""
    if len(text) > LONGEST_TEXT:
        raise LimitError("the text is too long")
    tokens = []
    at = skip_blanks(text, 0)
    while at < len(text):
        token, behind = read_token(text, at)
        tokens.append(token)
        at = skip_blanks(text, behind)
    return tokens


def skip_blanks(text, at):
    """The index of the first character from `at` on that is neither blank nor in a comment."""
    while at < len(text):
        if text[at] in " \n":
            at += 1
        elif text.startswith("(*", at):
            at = skip_comment(text, at)
        else:
            break
    return at


def skip_comment(text, start):
    """The index behind the comment that begins at `start`."""
    depth = 1
    at = start + 2
    while depth > 0:
        if at >= len(text):
            raise TokenError(start)
        if text.startswith("(*", at):
            depth += 1
            at += 2
        elif text.startswith("*)", at):
            depth -= 1
            at += 2
        else:
            at += 1
    return at


def read_token(text, at):
    """The token that begins at an index, and the index behind it."""
    first = text[at]
    if first in LETTERS:
        return read_word(text, at)
    if first in DIGITS:
        return read_number(text, at)
    if first == "'":
        return read_variable(text, at)
    if first == "\"":
        return read_string(text, at)
    if text[at:at + 2] in LONG_SIGNS:
        return ("sign", text[at:at + 2], at), at + 2
    if first in SHORT_SIGNS:
        return ("sign", first, at), at + 1
    raise TokenError(at)


def tail_end(text, at):
    """The index behind the letters, digits, underscores and quotes from `at` on."""
    while at < len(text) and text[at] in TAIL:
        at += 1
    return at


def read_word(text, at):
    """The identifier or reserved word at an index."""
    behind = tail_end(text, at)
    word = text[at:behind]
    if len(word) > LONGEST_IDENTIFIER:
        raise TokenError(at)
    if word in WORDS:
        return ("word", word, at), behind
    if word[0] in UPPER:
        return ("high", word, at), behind
    return ("low", word, at), behind


def read_number(text, at):
    """The number at an index."""
    behind = tail_end(text, at)
    digits = text[at:behind]
    wrong_sign = any([sign not in DIGITS for sign in digits])
    leading_zero = digits[0] == "0" and len(digits) > 1
    if wrong_sign or leading_zero or len(digits) > MOST_DIGITS:
        raise TokenError(at)
    return ("int", digits, at), behind


def read_variable(text, at):
    """The type variable at an index."""
    behind = tail_end(text, at + 1)
    letter = text[at + 1:behind]
    if len(letter) != 1 or letter not in LOWER:
        raise TokenError(at)
    return ("var", letter, at), behind


def read_string(text, start):
    """The string at an index: the first fault from left to right counts, a missing end comes last."""
    found = []
    at = start + 1
    while at < len(text):
        sign = text[at]
        if sign == "\"":
            return ("string", "".join(found), start), at + 1
        if sign == "\n":
            raise TokenError(at)
        if sign == "\\":
            escaped = text[at + 1:at + 2]
            if escaped not in ESCAPES:
                raise TokenError(at)
            found.append(ESCAPES[escaped])
            at += 2
        else:
            found.append(sign)
            at += 1
    raise TokenError(start)


def string_text(text):
    """The text of the string token that stands for a text."""
    escaped = text.replace("\\", "\\\\").replace("\"", "\\\"").replace("\n", "\\n")
    return "\"" + escaped + "\""
