"""ScopeError for expressions, patterns and types, which depends on names alone (points 24 and 25).

The scopes here have the number of parameters as the entry of a type, and True for values and constructors.
"""

from guanaco.errors import ScopeError
from guanaco.scope import CONSTRUCTOR, STRUCTURE, TY, VALUE, Scope
from guanaco.trees import children, matches_of, names


def need(scope, kind, path):
    """The entry of a path, or ScopeError."""
    entry = scope.seek(kind, path)
    if entry is None:
        raise ScopeError(-1)
    return entry


def check_ty(scope, ty, letters):
    """Checks a type in which these letters may occur. All letters may if `letters` is None."""
    if ty[0] == "tyvar" and letters is not None and ty[1] not in letters:
        raise ScopeError(-1)
    if ty[0] == "tycon" and need(scope, TY, ty[1]) != len(ty[2]):
        raise ScopeError(-1)
    for part in children(ty):
        check_ty(scope, part, letters)


def check_argument(scope, ty, letters):
    """Checks the type of an argument, or None."""
    if ty is not None:
        check_ty(scope, ty, letters)


def check_pattern(scope, pattern):
    """Checks a pattern."""
    if pattern[0] == "pcon":
        need(scope, CONSTRUCTOR, pattern[1])
    for part in children(pattern):
        check_pattern(scope, part)


def with_names(scope, pattern):
    """A scope that has the names of a pattern as well."""
    inner = scope.inner()
    for name in names(pattern):
        inner.bind(VALUE, name, True)
    return inner


def check_rules(scope, rules):
    """Checks the rules of a match."""
    for pattern, body in rules:
        check_pattern(scope, pattern)
        check_expression(with_names(scope, pattern), body)


def check_expression(scope, e):
    """Checks an expression."""
    tag = e[0]
    if tag == "var":
        need(scope, VALUE, e[1])
    elif tag == "con":
        need(scope, CONSTRUCTOR, e[1])
    elif tag == "typed":
        check_expression(scope, e[1])
        check_ty(scope, e[2], ())
    elif tag == "let":
        inner = scope.inner()
        for declaration in e[1]:
            inner.include(local_names(inner, declaration))
        check_expression(inner, e[2])
    elif tag in ("fn", "case", "handle"):
        if tag != "fn":
            check_expression(scope, e[1])
        for rules in matches_of(e):
            check_rules(scope, rules)
    else:
        for part in children(e):
            check_expression(scope, part)


def local_names(scope, declaration):
    """Checks a declaration that may stand in a `let`. A scope with what it declares."""
    tag = declaration[0]
    if tag == "open":
        return need(scope, STRUCTURE, declaration[1])
    found = Scope()
    if tag == "val":
        check_expression(scope, declaration[2])
        check_pattern(scope, declaration[1])
        for name in names(declaration[1]):
            found.bind(VALUE, name, True)
    elif tag == "exception":
        check_argument(scope, declaration[2], ())
        found.bind(CONSTRUCTOR, declaration[1], True)
    else:
        check_distinct([name for name, _ in declaration[1]])
        for name, _ in declaration[1]:
            found.bind(VALUE, name, True)
        inner = scope.inner()
        inner.include(found)
        for _, rules in declaration[1]:
            check_rules(inner, rules)
    return found


def check_distinct(found):
    """Raises ScopeError if a name stands twice in a list."""
    seen = {}
    for name in found:
        if name in seen:
            raise ScopeError(-1)
        seen[name] = True
