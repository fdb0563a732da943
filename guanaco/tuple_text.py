"""Nested tuples of strings, integers, booleans and None as texts (point 132).

They may be deep, so nothing here follows their depth.
"""

from guanaco.scanner import Scanner
from guanaco.tokens import string_text


def tuple_text(thing):
    """The text of a nested tuple."""
    found = []
    work = [(thing, "")]
    while work:
        part, before = work.pop()
        found.append(before)
        if before == ")":
            continue
        if isinstance(part, tuple):
            found.append("(")
            work.append((None, ")"))
            for k in reversed(range(len(part))):
                work.append((part[k], " " if k > 0 else ""))
        else:
            found.append(plain_text(part))
    return "".join(found)


def plain_text(thing):
    """The text of what is no tuple."""
    if isinstance(thing, str):
        return string_text(thing)
    if thing is None:
        return "-"
    if thing is True:
        return "T"
    return "F" if thing is False else str(thing)


def read_tuple(line):
    """The nested tuple of a text, or Unreadable."""
    scanner = Scanner(line)
    scanner.expect("(")
    unfinished = [[]]
    while True:
        parts = unfinished[-1]
        if scanner.skip(")"):
            unfinished.pop()
            if not unfinished:
                scanner.finish()
                return tuple(parts)
            unfinished[-1].append(tuple(parts))
            continue
        if parts:
            scanner.expect(" ")
        if scanner.skip("("):
            unfinished.append([])
        else:
            parts.append(read_plain(scanner))


def read_plain(scanner):
    """What is no tuple."""
    if scanner.sign() == "\"":
        return scanner.quoted()
    if scanner.skip("T"):
        return True
    if scanner.skip("F"):
        return False
    if scanner.skip("-"):
        return scanner.negative() if scanner.sign().isdigit() else None
    return scanner.natural()
