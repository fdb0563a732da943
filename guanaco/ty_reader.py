"""Parsing the types of programs and the parameters of type constructors (points 13, 16 and 17)."""

from guanaco.cursor import read_path
from guanaco.errors import ParseError


def read_ty(cursor):
    """A type."""
    sides = [read_product(cursor)]
    while cursor.skip("->"):
        sides.append(read_product(cursor))
    ty = sides.pop()
    while sides:
        ty = ("tyfun", sides.pop(), ty)
    return ty


def read_product(cursor):
    """A type without an arrow outside of brackets."""
    parts = [read_applied_ty(cursor)]
    while cursor.skip("*"):
        parts.append(read_applied_ty(cursor))
    if len(parts) == 1:
        return parts[0]
    return ("tytuple", tuple(parts))


def read_applied_ty(cursor):
    """A type with the paths behind it that it is an argument of."""
    if cursor.mark == "(":
        arguments = read_ty_brackets(cursor)
        ty = arguments[0]
        if len(arguments) > 1:
            ty = ("tycon", read_path(cursor, ("low",)), tuple(arguments))
    elif cursor.mark == "var":
        ty = ("tyvar", cursor.take())
    else:
        path = read_path(cursor, ("low",))
        ty = ("tytuple", ()) if path == ("unit",) else ("tycon", path, ())
    while cursor.mark in ("low", "high"):
        ty = ("tycon", read_path(cursor, ("low",)), (ty,))
    return ty


def read_ty_brackets(cursor):
    """The list of the types in a pair of brackets."""
    cursor.begin("(")
    found = [read_ty(cursor)]
    while cursor.skip(","):
        found.append(read_ty(cursor))
    cursor.shut(")")
    return found


def read_parameters(cursor):
    """The letters in front of the name of a type constructor."""
    if cursor.mark == "var":
        return (cursor.take(),)
    if not cursor.skip("("):
        return ()
    letters = []
    while not letters or cursor.skip(","):
        place = cursor.place()
        letter = cursor.expect("var")
        if letter in letters:
            raise ParseError(place)
        letters.append(letter)
    cursor.expect(")")
    return tuple(letters)
