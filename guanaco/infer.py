"""The types of expressions and of the declarations of values (points 27 and 28).

In the scopes here a value also has the entry `("local", node, quantified)`: the node of its type, and whether
there are quantified variables in it.

With the node of its type each expression has a draft: what elaboration needs of it. Numbers i in it are those of
notes. The drafts are `("int", n)`, `("string", s)`, `("var", path, i)`, `("con", k, has argument, i)`,
`("exn", path, has argument, i)`, `("tuple", drafts)`, `("app", draft, draft)`, `("fn", rules, i)`,
`("case", draft, rules, i of the first draft, i)`, `("if", draft, draft, draft)`, `("let", declarations, draft)`,
`("seq", draft, draft, i of the first one)`, `("raise", draft, i)`, `("handle", draft, rules, i)`.
Rules are pairs of the drafts of a pattern and an expression. Those of declarations are
`("val", pattern, draft, letters)` and `("fun", functions, letters)` with what `Work.settle` tells of names, where
functions are pairs of a name and rules; `("exception", name, ty or None)`, and `("open", path, values, exceptions,
structures)` with the names of these.
"""

from guanaco.fitting import fit, resolved
from guanaco.forms import BOOL, EXN
from guanaco.meaning import meaning, meaning_or_none
from guanaco.scope import CONSTRUCTOR, STRUCTURE, VALUE, Scope
from guanaco.work import constructor_nodes, constructor_place, integer_ty, string_ty


def infer(work, scope, e):
    """The node of the type of an expression, and its draft."""
    rule = RULES[e[0]]
    return rule(work, scope, e)


def infer_int(work, scope, e):
    """An integer."""
    return work.node_of(integer_ty(e[1]), {}), e


def infer_string(work, scope, e):
    """A string."""
    return work.node_of(string_ty(e[1]), {}), e


def infer_var(work, scope, e):
    """A value: an instance of its scheme."""
    kind, first, second = scope.seek(VALUE, e[1])
    if kind == "closed":
        node = work.node_of(second, {})
    else:
        node = work.graph.renewed(first, work.level) if second else first
    return node, ("var", e[1], work.note(node))


def infer_con(work, scope, e):
    """A constructor or an exception: a function if it has an argument."""
    argument, node = constructor_nodes(work, scope, e[1])
    has_argument = argument is not None
    if has_argument:
        node = work.graph.arrow(argument, node)
    kind, owner, _, _ = scope.seek(CONSTRUCTOR, e[1])
    if kind == "exn":
        return node, ("exn", e[1], has_argument, work.note(node))
    k, _ = constructor_place(work.world, owner, e[1][-1])
    return node, ("con", k, has_argument, work.note(node))


def infer_tuple(work, scope, e):
    """A tuple."""
    parts = [infer(work, scope, part) for part in e[1]]
    return work.graph.product([node for node, _ in parts]), ("tuple", tuple([draft for _, draft in parts]))


def infer_app(work, scope, e):
    """An application."""
    function, first = infer(work, scope, e[1])
    argument, second = infer(work, scope, e[2])
    result = work.unknown()
    work.graph.unify(function, work.graph.arrow(argument, result))
    return result, ("app", first, second)


def infer_fn(work, scope, e):
    """A function."""
    argument = work.unknown()
    result = work.unknown()
    rules = infer_rules(work, scope, e[1], argument, result, "match")
    node = work.graph.arrow(argument, result)
    return node, ("fn", rules, work.note(node))


def infer_case(work, scope, e):
    """A `case`."""
    subject, first = infer(work, scope, e[1])
    result = work.unknown()
    rules = infer_rules(work, scope, e[2], subject, result, "match")
    return result, ("case", first, rules, work.note(subject), work.note(result))


def infer_handle(work, scope, e):
    """A `handle`."""
    result, first = infer(work, scope, e[1])
    rules = infer_rules(work, scope, e[2], work.node_of(EXN, {}), result, "handle")
    return result, ("handle", first, rules, work.note(result))


def infer_rules(work, scope, rules, subject, result, kind):
    """The drafts of the rules of a match from the type of a subject to that of a result."""
    patterns = []
    bound = []
    for pattern, _ in rules:
        found = {}
        node, draft = fit(work, scope, pattern, found)
        work.graph.unify(subject, node)
        patterns.append(draft)
        bound.append(found)
    work.matches.append((kind, subject, [resolved(draft) for draft in patterns]))
    bodies = []
    for (_, body), found in zip(rules, bound):
        inner = scope.inner()
        for name, node in found.items():
            inner.bind(VALUE, name, ("local", node, False))
        node, draft = infer(work, inner, body)
        work.graph.unify(result, node)
        bodies.append(draft)
    return tuple(list(zip(patterns, bodies)))


def infer_if(work, scope, e):
    """An `if`."""
    test, first = infer(work, scope, e[1])
    work.demand(test, BOOL)
    result, second = infer(work, scope, e[2])
    other, third = infer(work, scope, e[3])
    work.graph.unify(result, other)
    return result, ("if", first, second, third)


def infer_seq(work, scope, e):
    """A sequence."""
    node, first = infer(work, scope, e[1])
    result, second = infer(work, scope, e[2])
    return result, ("seq", first, second, work.note(node))


def infer_raise(work, scope, e):
    """A `raise`."""
    node, draft = infer(work, scope, e[1])
    work.demand(node, EXN)
    result = work.unknown()
    return result, ("raise", draft, work.note(result))


def infer_typed(work, scope, e):
    """An expression with its type."""
    node, draft = infer(work, scope, e[1])
    work.demand(node, meaning(scope, e[2]))
    return node, draft


def infer_let(work, scope, e):
    """A `let`."""
    inner = scope.inner()
    drafts = []
    for declaration in e[1]:
        declared, draft = declare_local(work, inner, declaration)
        inner.include(declared)
        drafts.append(draft)
    node, body = infer(work, inner, e[2])
    return node, ("let", tuple(drafts), body)


def declare_local(work, scope, declaration):
    """A scope with what a declaration declares that may stand in a `let`, and the draft of the declaration."""
    tag = declaration[0]
    if tag == "open":
        opened = scope.seek(STRUCTURE, declaration[1])
        return opened, ("open", declaration[1], *names_opened(opened))
    found = Scope()
    if tag == "exception":
        argument = meaning_or_none(scope, declaration[2])
        made = work.world.make_exception(declaration[1], argument)
        if argument is not None:
            work.arguments.append(argument)
        found.bind(CONSTRUCTOR, declaration[1], ("exn", made, (), argument))
        return found, ("exception", declaration[1], argument)
    if tag == "val":
        entries, draft = infer_val(work, scope, declaration)
    else:
        entries, draft = infer_fun(work, scope, declaration)
    for name, entry in entries.items():
        found.bind(VALUE, name, entry)
    return found, draft


def names_opened(opened):
    """The names of the values, the exceptions and the structures of a structure."""
    exceptions = []
    for name in opened.names_of(CONSTRUCTOR):
        if opened.entry(CONSTRUCTOR, name)[0] == "exn":
            exceptions.append(name)
    return opened.names_of(VALUE), exceptions, opened.names_of(STRUCTURE)


def infer_val(work, scope, declaration):
    """The entries of the names that a `val` binds, and its draft."""
    _, pattern, e = declaration
    work.level += 1
    node, body = infer(work, scope, e)
    bound = {}
    other, draft = fit(work, scope, pattern, bound)
    work.graph.unify(node, other)
    work.matches.append(("match", node, [resolved(draft)]))
    work.level -= 1
    entries, letters = work.settle(bound, is_value_form(scope, e))
    return entries, ("val", draft, body, letters)


def infer_fun(work, scope, declaration):
    """The entries of the functions of a `fun`, and its draft."""
    work.level += 1
    inner = scope.inner()
    bound = {}
    sides = []
    for name, _ in declaration[1]:
        source, target = work.unknown(), work.unknown()
        sides.append((source, target))
        bound[name] = work.graph.arrow(source, target)
        inner.bind(VALUE, name, ("local", bound[name], False))
    functions = []
    for (name, rules), (source, target) in zip(declaration[1], sides):
        functions.append((name, infer_rules(work, inner, rules, source, target, "match")))
    work.level -= 1
    entries, letters = work.settle(bound, True)
    return entries, ("fun", tuple(functions), letters)


def is_value_form(scope, e):
    """Whether an expression is a value form."""
    tag = e[0]
    if tag in ("int", "string", "var", "con", "fn"):
        return True
    if tag == "tuple":
        return all([is_value_form(scope, part) for part in e[1]])
    if tag == "typed":
        return is_value_form(scope, e[1])
    if tag == "app" and e[1][0] == "con" and scope.seek(CONSTRUCTOR, e[1][1])[0] == "con":
        return is_value_form(scope, e[2])
    return False


RULES = {
    "int": infer_int, "string": infer_string, "var": infer_var, "con": infer_con, "tuple": infer_tuple,
    "app": infer_app, "fn": infer_fn, "case": infer_case, "if": infer_if, "let": infer_let, "seq": infer_seq,
    "raise": infer_raise, "handle": infer_handle, "typed": infer_typed,
}
