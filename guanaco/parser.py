"""Parsing programs, expressions and types (points 15 to 18)."""

from guanaco.cursor import Cursor, read_path
from guanaco.errors import ParseError
from guanaco.expression_reader import LOCAL_DECLARATIONS, read_exception, read_expression, read_fun
from guanaco.expression_reader import read_opening, read_val
from guanaco.limits import check_limits
from guanaco.ty_reader import read_parameters, read_ty


def parse(text):
    """The program that a text is."""
    cursor = Cursor(text)
    found = []
    while cursor.mark != "":
        found.append(read_outermost(cursor))
        cursor.skip(";")
    program = tuple(found)
    check_limits(program)
    return program


def parse_expression(text):
    """The expression that a text is."""
    cursor = Cursor(text)
    e = read_expression(cursor)
    cursor.finish()
    check_limits(e)
    return e


def parse_ty(text):
    """The type that a text is."""
    cursor = Cursor(text)
    ty = read_ty(cursor)
    cursor.finish()
    check_limits(ty)
    return ty


def read_outermost(cursor):
    """An outermost declaration."""
    if cursor.mark == "signature":
        return read_signature(cursor)
    if cursor.mark == "functor":
        return read_functor(cursor)
    return read_declaration(cursor)


def read_declaration(cursor):
    """A declaration that may stand in a struct."""
    mark = cursor.mark
    if mark in LOCAL_DECLARATIONS:
        return read_local_declaration(cursor)
    if mark not in ("datatype", "type", "structure"):
        raise ParseError(cursor.place())
    cursor.step()
    if mark == "datatype":
        return ("datatype", read_datatypes(cursor))
    if mark == "type":
        letters = read_parameters(cursor)
        name = cursor.expect("low")
        cursor.expect("=")
        return ("alias", letters, name, read_ty(cursor))
    name = cursor.expect("high")
    sealing = read_sealing(cursor)
    cursor.expect("=")
    return ("structure", name, seal(read_structure(cursor), sealing))


def read_local_declaration(cursor):
    """A declaration that may stand in a `let`."""
    if cursor.mark == "val":
        return read_val(cursor)
    if cursor.mark == "fun":
        return read_fun(cursor)
    if cursor.mark == "exception":
        return read_exception(cursor)
    return read_opening(cursor)


def read_datatypes(cursor):
    """The data types of a `datatype`."""
    bindings = []
    while not bindings or cursor.skip("and"):
        letters = read_parameters(cursor)
        name = cursor.expect("low")
        cursor.expect("=")
        constructors = []
        while not constructors or cursor.skip("|"):
            constructor = cursor.expect("high")
            constructors.append((constructor, read_ty(cursor) if cursor.skip("of") else None))
        bindings.append((letters, name, tuple(constructors)))
    return tuple(bindings)


def read_signature(cursor):
    """A `signature` declaration."""
    cursor.expect("signature")
    name = cursor.expect("high")
    cursor.expect("=")
    return ("signature", name, read_signature_expression(cursor))


def read_functor(cursor):
    """A `functor` declaration."""
    cursor.expect("functor")
    name = cursor.expect("high")
    cursor.expect("(")
    parameter = cursor.expect("high")
    cursor.expect(":")
    g = read_signature_expression(cursor)
    cursor.expect(")")
    sealing = read_sealing(cursor)
    cursor.expect("=")
    return ("functor", name, parameter, g, seal(read_structure(cursor), sealing))


def read_sealing(cursor):
    """The signature of a seal and whether it is opaque, or None if no seal stands here."""
    if cursor.mark not in (":", ":>"):
        return None
    opaque = cursor.take() == ":>"
    return read_signature_expression(cursor), opaque


def seal(s, sealing):
    """The structure expression with a seal that `read_sealing` returned."""
    if sealing is None:
        return s
    g, opaque = sealing
    return ("seal", s, g, opaque)


def read_structure(cursor):
    """A structure expression."""
    if cursor.mark == "struct":
        cursor.begin("struct")
        found = []
        while cursor.mark != "end":
            found.append(read_declaration(cursor))
            cursor.skip(";")
        cursor.shut("end")
        s = ("struct", tuple(found))
    else:
        path = read_path(cursor, ("high",))
        s = ("path", path)
        if len(path) == 1 and cursor.mark == "(":
            cursor.begin("(")
            s = ("apply", path[0], read_structure(cursor))
            cursor.shut(")")
    while cursor.mark in (":", ":>"):
        s = seal(s, read_sealing(cursor))
    return s


def read_signature_expression(cursor):
    """A signature expression."""
    if cursor.mark == "sig":
        cursor.begin("sig")
        found = []
        while cursor.mark != "end":
            found.append(read_specification(cursor))
            cursor.skip(";")
        cursor.shut("end")
        g = ("sig", tuple(found))
    else:
        g = ("signame", cursor.expect("high"))
    while cursor.skip("where"):
        cursor.expect("type")
        letters = read_parameters(cursor)
        path = read_path(cursor, ("low",))
        cursor.expect("=")
        g = ("where", g, path, letters, read_ty(cursor))
    return g


def read_specification(cursor):
    """A specification."""
    mark = cursor.mark
    if mark == "exception":
        _, name, ty = read_exception(cursor)
        return ("sexn", name, ty)
    if mark not in ("val", "type", "datatype", "structure"):
        raise ParseError(cursor.place())
    cursor.step()
    if mark == "datatype":
        return ("sdata", read_datatypes(cursor))
    if mark == "type":
        letters = read_parameters(cursor)
        name = cursor.expect("low")
        return ("stype", letters, name, read_ty(cursor) if cursor.skip("=") else None)
    name = cursor.expect("low" if mark == "val" else "high")
    cursor.expect(":")
    if mark == "val":
        return ("sval", name, read_ty(cursor))
    return ("sstr", name, read_signature_expression(cursor))
