"""What the types of programs mean, and entries of scopes in which type constructors are replaced.

The entry of a type is a pair of its letters and the type that it stands for. That of a value is
`("closed", variables, type)`: all of its variables are quantified. That of a constructor is
`("con", type constructor, letters, argument)`, that of an exception `("exn", name, (), argument)`, where the
argument's type may be None.
"""

from guanaco.forms import bounded, build, fold, head_of
from guanaco.monos import instance
from guanaco.scope import CONSTRUCTOR, STRUCTURE, TY, VALUE, Scope


def meaning(scope, ty):
    """The type that a type of a program stands for; its letters are the variables."""
    return bounded(translated(scope, ty))


def meaning_or_none(scope, ty):
    """As `meaning`, for the type of an argument or None."""
    return None if ty is None else meaning(scope, ty)


def translated(scope, ty):
    """As `meaning`, where only the types that names stand for are bounded."""
    tag = ty[0]
    if tag == "tyvar":
        return ("var", ty[1])
    if tag == "tyfun":
        return ("fun", translated(scope, ty[1]), translated(scope, ty[2]))
    if tag == "tytuple":
        return ("tuple", tuple([translated(scope, part) for part in ty[1]]))
    arguments = [translated(scope, part) for part in ty[2]]
    return bounded(instance(scope.seek(TY, ty[1]), arguments))


def letter_types(letters):
    """The tuple of the letters as types."""
    return tuple([("var", letter) for letter in letters])


def constructor_function(name, letters):
    """The entry of a type that stands for a type constructor, applied to its parameters."""
    return (letters, ("con", name, letter_types(letters)))


def replaced(ty, meanings):
    """A type, or None, in which the type constructors in `meanings` stand for the entries there."""
    if ty is None or not meanings:
        return ty

    def combine(item, parts):
        if item[0] == "var":
            return item
        if item[0] == "con" and item[1] in meanings:
            return bounded(instance(meanings[item[1]], parts))
        return build(head_of(item), parts)
    return bounded(fold(ty, combine))


def replaced_constructors(constructors, meanings):
    """The constructors of a data type with the types of their arguments replaced."""
    return tuple([(name, replaced(ty, meanings)) for name, ty in constructors])


def realized(scope, meanings, exceptions):
    """A scope in which type constructors and exceptions are replaced."""
    return realized_once(scope, meanings, exceptions, {})


def realized_once(scope, meanings, exceptions, known):
    """As `realized`, where `known` has the scopes that were replaced already: structures may share others."""
    if scope in known:
        return known[scope]
    found = Scope()
    for name in scope.names_of(VALUE):
        _, found_variables, ty = scope.entry(VALUE, name)
        found.bind(VALUE, name, ("closed", found_variables, replaced(ty, meanings)))
    for name in scope.names_of(TY):
        letters, ty = scope.entry(TY, name)
        found.bind(TY, name, (letters, replaced(ty, meanings)))
    for name in scope.names_of(CONSTRUCTOR):
        kind, owner, letters, argument = scope.entry(CONSTRUCTOR, name)
        if kind == "exn":
            owner = exceptions.get(owner, owner)
        elif owner in meanings:
            owner = meanings[owner][1][1]
        found.bind(CONSTRUCTOR, name, (kind, owner, letters, replaced(argument, meanings)))
    for name in scope.names_of(STRUCTURE):
        inner = scope.entry(STRUCTURE, name)
        found.bind(STRUCTURE, name, realized_once(inner, meanings, exceptions, known))
    known[scope] = found
    return found
