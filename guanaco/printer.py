"""Printing programs, expressions and types (point 19)."""

from guanaco.errors import LimitError
from guanaco.expression_printer import ANY_EXPRESSION, constructor_declaration_text, expression_text, local_text
from guanaco.tokens import LONGEST_TEXT
from guanaco.ty_printer import ANY_TY, parameters_text, path_text, ty_text


def print_program(program):
    """The text of a program."""
    return within_limit("\n".join([declaration_text(declaration) for declaration in program]))


def print_expression(e):
    """The text of an expression."""
    return within_limit(expression_text(e, ANY_EXPRESSION))


def print_ty(ty):
    """The text of a type."""
    return within_limit(ty_text(ty, ANY_TY))


def within_limit(text):
    """The text itself, or LimitError."""
    if len(text) > LONGEST_TEXT:
        raise LimitError("the printed text is too long")
    return text


def declaration_text(declaration):
    """The text of a declaration."""
    tag = declaration[0]
    if tag == "datatype":
        return datatypes_text(declaration[1])
    if tag == "alias":
        _, letters, name, ty = declaration
        return "type " + parameters_text(letters) + name + " = " + ty_text(ty, ANY_TY)
    if tag == "structure":
        return f"structure {declaration[1]} = {structure_text(declaration[2])}"
    if tag == "signature":
        return f"signature {declaration[1]} = {signature_text(declaration[2])}"
    if tag == "functor":
        _, name, parameter, g, s = declaration
        return f"functor {name} ({parameter} : {signature_text(g)}) = {structure_text(s)}"
    return local_text(declaration)


def datatypes_text(bindings):
    """The text of the data types of one declaration or specification."""
    texts = []
    for letters, name, constructors in bindings:
        alternatives = " | ".join([constructor_declaration_text(high, ty) for high, ty in constructors])
        texts.append(f"{parameters_text(letters)}{name} = {alternatives}")
    return "datatype " + " and ".join(texts)


def structure_text(s):
    """The text of a structure expression."""
    if s[0] == "struct":
        return " ".join(["struct", *[declaration_text(declaration) for declaration in s[1]], "end"])
    if s[0] == "path":
        return path_text(s[1])
    if s[0] == "apply":
        return f"{s[1]} ({structure_text(s[2])})"
    sign = ":>" if s[3] else ":"
    return f"{structure_text(s[1])} {sign} {signature_text(s[2])}"


def signature_text(g):
    """The text of a signature expression."""
    if g[0] == "sig":
        return " ".join(["sig", *[specification_text(specification) for specification in g[1]], "end"])
    if g[0] == "signame":
        return g[1]
    _, inner, path, letters, ty = g
    refined = parameters_text(letters) + path_text(path) + " = " + ty_text(ty, ANY_TY)
    return signature_text(inner) + " where type " + refined


def specification_text(specification):
    """The text of a specification."""
    tag = specification[0]
    if tag == "sval":
        return f"val {specification[1]} : {ty_text(specification[2], ANY_TY)}"
    if tag == "stype":
        _, letters, name, ty = specification
        meaning = "" if ty is None else f" = {ty_text(ty, ANY_TY)}"
        return "type " + parameters_text(letters) + name + meaning
    if tag == "sdata":
        return datatypes_text(specification[1])
    if tag == "sexn":
        return "exception " + constructor_declaration_text(specification[1], specification[2])
    return f"structure {specification[1]} : {signature_text(specification[2])}"
