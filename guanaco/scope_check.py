"""ScopeError for declarations, structures and signatures (points 24, 25 and 60 to 65).

This goes through a program by its names alone, before the types of a declaration are looked at.
"""

from guanaco.errors import ScopeError
from guanaco.name_check import check_argument, check_distinct, check_ty, local_names, need
from guanaco.scope import CONSTRUCTOR, KINDS, STRUCTURE, TY, VALUE, Scope


class Outermost:
    """The scope of a program, with the names that its signatures and its functors' bodies have."""

    def __init__(self, scope):
        self.scope = scope
        self.signatures = {}
        self.functors = {}


def check_outermost(state, declaration):
    """Checks an outermost declaration and declares it."""
    if declaration[0] == "signature":
        state.signatures[declaration[1]] = signature_names(state, state.scope, declaration[2])
    elif declaration[0] == "functor":
        _, name, parameter, g, s = declaration
        inner = state.scope.inner()
        inner.bind(STRUCTURE, parameter, signature_names(state, state.scope, g))
        state.functors[name] = structure_names(state, inner, s)
    else:
        state.scope.include(declared_names(state, state.scope, declaration))


def declared_names(state, scope, declaration):
    """A scope with what a declaration declares."""
    tag = declaration[0]
    if tag == "datatype":
        return datatype_names(scope, declaration[1])
    if tag not in ("alias", "structure"):
        return local_names(scope, declaration)
    found = Scope()
    if tag == "alias":
        _, letters, name, ty = declaration
        check_ty(scope, ty, letters)
        found.bind(TY, name, len(letters))
    else:
        found.bind(STRUCTURE, declaration[1], structure_names(state, scope, declaration[2]))
    return found


def datatype_names(scope, bindings):
    """A scope with what the data types of one declaration or specification declare."""
    constructors = [pair for _, _, pairs in bindings for pair in pairs]
    check_distinct([name for _, name, _ in bindings])
    check_distinct([name for name, _ in constructors])
    found = Scope()
    for letters, name, _ in bindings:
        found.bind(TY, name, len(letters))
    for name, _ in constructors:
        found.bind(CONSTRUCTOR, name, True)
    inner = scope.inner()
    inner.include(found)
    for letters, _, pairs in bindings:
        for _, ty in pairs:
            check_argument(inner, ty, letters)
    return found


def structure_names(state, scope, s):
    """A scope with what a structure expression has."""
    tag = s[0]
    if tag == "path":
        return need(scope, STRUCTURE, s[1])
    if tag == "apply":
        structure_names(state, scope, s[2])
        if s[1] not in state.functors:
            raise ScopeError(-1)
        return state.functors[s[1]]
    if tag == "seal":
        structure_names(state, scope, s[1])
        return signature_names(state, scope, s[2])
    found = Scope()
    inner = scope.inner()
    for declaration in s[1]:
        declared = declared_names(state, inner, declaration)
        inner.include(declared)
        found.include(declared)
    return found


def signature_names(state, scope, g):
    """A scope with what a signature expression specifies."""
    tag = g[0]
    if tag == "signame":
        if g[1] not in state.signatures:
            raise ScopeError(-1)
        return state.signatures[g[1]]
    if tag == "where":
        _, inner, path, letters, ty = g
        found = signature_names(state, scope, inner)
        if found.seek(TY, path) != len(letters):
            raise ScopeError(-1)
        check_ty(scope, ty, letters)
        return found
    found = Scope()
    inner = scope.inner()
    for specification in g[1]:
        specified = specified_names(state, inner, specification)
        for kind in KINDS:
            check_distinct(found.names_of(kind) + specified.names_of(kind))
        inner.include(specified)
        found.include(specified)
    return found


def specified_names(state, scope, specification):
    """A scope with what a specification specifies."""
    tag = specification[0]
    if tag == "sdata":
        return datatype_names(scope, specification[1])
    found = Scope()
    if tag == "sval":
        check_ty(scope, specification[2], None)
        found.bind(VALUE, specification[1], True)
    elif tag == "stype":
        _, letters, name, ty = specification
        check_argument(scope, ty, letters)
        found.bind(TY, name, len(letters))
    elif tag == "sexn":
        check_argument(scope, specification[2], ())
        found.bind(CONSTRUCTOR, specification[1], True)
    else:
        found.bind(STRUCTURE, specification[1], signature_names(state, scope, specification[2]))
    return found
