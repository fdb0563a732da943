"""Helpers for the tests of the checker."""

import unittest

from guanaco import errors
from guanaco.checker import check, principal
from guanaco.parser import parse, parse_expression
from guanaco.printer import print_ty


def written(ty):
    """A type as a text, with type constructors by the names that the program gives them."""
    def tree(part):
        if part[0] == "var":
            return ("tyvar", part[1])
        if part[0] == "fun":
            return ("tyfun", tree(part[1]), tree(part[2]))
        if part[0] == "tuple":
            return ("tytuple", tuple(tree(inner) for inner in part[1]))
        return ("tycon", (part[1].partition(".")[0],), tuple(tree(inner) for inner in part[2]))
    return print_ty(tree(ty))


def bindings_of(text):
    """The names and types that a program reports."""
    return {name: written(ty) for name, (_, ty) in check(parse(text))[0]}


def data_of(text):
    """The data that a program reports, but bool and list, as texts."""
    found = []
    for name, letters, constructors in check(parse(text))[1][2:]:
        pairs = [high if ty is None else f"{high} of {written(ty)}" for high, ty in constructors]
        found.append(" ".join([*letters, name.partition(".")[0], "=", *pairs]))
    return found


def type_of(text):
    """The principal type of an expression as a text."""
    return written(principal(parse_expression(text))[1])


class CheckTests(unittest.TestCase):
    def accepts(self, *texts):
        for text in texts:
            try:
                check(parse(text))
            except errors.GuanacoError as error:
                self.fail(f"{type(error).__name__} {getattr(error, 'number', '')}: {text}")

    def rejects(self, error, number, *texts):
        for text in texts:
            try:
                check(parse(text))
            except errors.GuanacoError as found:
                self.assertIs(type(found), error, text)
                self.assertEqual(found.number, number, text)
            else:
                self.fail(f"accepted: {text}")

    def has_type(self, cases):
        for text, ty in cases.items():
            self.assertEqual(type_of(text), ty, text)

    def has_none(self, *texts):
        for text in texts:
            with self.assertRaises(errors.Mismatch, msg=text) as caught:
                principal(parse_expression(text))
            self.assertEqual(caught.exception.number, 0)
