"""The types of expressions and of the declarations of values (points 27 and 28).

In the scopes here a value also has the entry `("local", node, quantified)`: the node of its type, and whether
there are quantified variables in it.
"""

from guanaco.errors import Mismatch
from guanaco.forms import BOOL, EXN, INT, STRING, bounded
from guanaco.graph import QUANTIFIED, Graph
from guanaco.meaning import letter_types, meaning, meaning_or_none
from guanaco.scope import CONSTRUCTOR, STRUCTURE, VALUE, Scope

LARGEST_INTEGER = 2000000000
LONGEST_STRING = 200


class Work:
    """The types of one declaration, the level of the innermost `val` or `fun`, and the matches so far."""

    def __init__(self, world):
        self.world = world
        self.graph = Graph()
        self.level = 0
        self.matches = []

    def node_of(self, ty, known):
        """The node of a type; `known` has the nodes of its variables and gets new ones."""
        return self.graph.enter(ty, known, self.level)

    def unknown(self):
        """A new variable."""
        return self.graph.variable(self.level)

    def demand(self, node, ty):
        """Makes a node equal to a type without variables."""
        self.graph.unify(node, self.node_of(ty, {}))

    def ty_of(self, node, rest):
        """The type of a node. Variables that are not quantified are the type `rest`, or stay if it is None."""
        def leaf(a):
            if rest is None or self.graph.levels[a] == QUANTIFIED:
                return ("var", a)
            return rest
        return bounded(self.graph.export(node, {}, leaf))

    def settle(self, bound, quantify):
        """The entries of names with their nodes, quantified or not, behind the end of a level."""
        entries = {}
        for name, node in bound.items():
            quantified = False
            if quantify:
                quantified = self.graph.generalize(node, self.level)
                self.ty_of(node, None)
            else:
                self.graph.lower_levels(node, self.level)
            entries[name] = ("local", node, quantified)
        return entries


def infer(work, scope, e):
    """The node of the type of an expression."""
    rule = RULES[e[0]]
    return rule(work, scope, e)


def integer_ty(n):
    """The type of an integer."""
    if not -LARGEST_INTEGER <= n <= LARGEST_INTEGER:
        raise Mismatch(-1)
    return INT


def string_ty(text):
    """The type of a string."""
    if len(text) > LONGEST_STRING:
        raise Mismatch(-1)
    return STRING


def infer_int(work, scope, e):
    """An integer."""
    return work.node_of(integer_ty(e[1]), {})


def infer_string(work, scope, e):
    """A string."""
    return work.node_of(string_ty(e[1]), {})


def infer_var(work, scope, e):
    """A value: an instance of its scheme."""
    kind, first, second = scope.seek(VALUE, e[1])
    if kind == "closed":
        return work.node_of(second, {})
    return work.graph.renewed(first, work.level) if second else first


def infer_con(work, scope, e):
    """A constructor or an exception: a function if it has an argument."""
    argument, result = constructor_nodes(work, scope, e[1])
    return result if argument is None else work.graph.arrow(argument, result)


def constructor_nodes(work, scope, path):
    """The nodes of the argument, or None, and of the result of an instance of a constructor or an exception."""
    kind, owner, letters, argument = scope.seek(CONSTRUCTOR, path)
    known = {}
    ty = EXN if kind == "exn" else ("con", owner, letter_types(letters))
    result = work.node_of(ty, known)
    return (None if argument is None else work.node_of(argument, known)), result


def infer_tuple(work, scope, e):
    """A tuple."""
    return work.graph.product([infer(work, scope, part) for part in e[1]])


def infer_app(work, scope, e):
    """An application."""
    function = infer(work, scope, e[1])
    argument = infer(work, scope, e[2])
    result = work.unknown()
    work.graph.unify(function, work.graph.arrow(argument, result))
    return result


def infer_fn(work, scope, e):
    """A function."""
    argument = work.unknown()
    result = work.unknown()
    infer_rules(work, scope, e[1], argument, result, "match")
    return work.graph.arrow(argument, result)


def infer_case(work, scope, e):
    """A `case`."""
    subject = infer(work, scope, e[1])
    result = work.unknown()
    infer_rules(work, scope, e[2], subject, result, "match")
    return result


def infer_handle(work, scope, e):
    """A `handle`."""
    result = infer(work, scope, e[1])
    infer_rules(work, scope, e[2], work.node_of(EXN, {}), result, "handle")
    return result


def infer_rules(work, scope, rules, subject, result, kind):
    """The rules of a match from the type of a subject to that of a result."""
    patterns = []
    bound = []
    for pattern, _ in rules:
        found = {}
        node, resolved = fit(work, scope, pattern, found)
        work.graph.unify(subject, node)
        patterns.append(resolved)
        bound.append(found)
    work.matches.append((kind, subject, patterns))
    for (_, body), found in zip(rules, bound):
        inner = scope.inner()
        for name, node in found.items():
            inner.bind(VALUE, name, ("local", node, False))
        work.graph.unify(result, infer(work, inner, body))


def infer_if(work, scope, e):
    """An `if`."""
    work.demand(infer(work, scope, e[1]), BOOL)
    result = infer(work, scope, e[2])
    work.graph.unify(result, infer(work, scope, e[3]))
    return result


def infer_seq(work, scope, e):
    """A sequence."""
    infer(work, scope, e[1])
    return infer(work, scope, e[2])


def infer_raise(work, scope, e):
    """A `raise`."""
    work.demand(infer(work, scope, e[1]), EXN)
    return work.unknown()


def infer_typed(work, scope, e):
    """An expression with its type."""
    node = infer(work, scope, e[1])
    work.demand(node, meaning(scope, e[2]))
    return node


def infer_let(work, scope, e):
    """A `let`."""
    inner = scope.inner()
    for declaration in e[1]:
        inner.include(declare_local(work, inner, declaration))
    return infer(work, inner, e[2])


def declare_local(work, scope, declaration):
    """A scope with what a declaration declares that may stand in a `let`."""
    tag = declaration[0]
    if tag == "open":
        return scope.seek(STRUCTURE, declaration[1])
    found = Scope()
    if tag == "exception":
        argument = meaning_or_none(scope, declaration[2])
        made = work.world.make_exception(declaration[1], argument)
        found.bind(CONSTRUCTOR, declaration[1], ("exn", made, (), argument))
        return found
    if tag == "val":
        entries = infer_val(work, scope, declaration)
    else:
        entries = infer_fun(work, scope, declaration)
    for name, entry in entries.items():
        found.bind(VALUE, name, entry)
    return found


def infer_val(work, scope, declaration):
    """The entries of the names that a `val` binds."""
    _, pattern, e = declaration
    work.level += 1
    node = infer(work, scope, e)
    bound = {}
    other, resolved = fit(work, scope, pattern, bound)
    work.graph.unify(node, other)
    work.matches.append(("match", node, [resolved]))
    work.level -= 1
    return work.settle(bound, is_value_form(scope, e))


def infer_fun(work, scope, declaration):
    """The entries of the functions of a `fun`."""
    work.level += 1
    inner = scope.inner()
    bound = {}
    sides = []
    for name, _ in declaration[1]:
        source, target = work.unknown(), work.unknown()
        sides.append((source, target))
        bound[name] = work.graph.arrow(source, target)
        inner.bind(VALUE, name, ("local", bound[name], False))
    for (_, rules), (source, target) in zip(declaration[1], sides):
        infer_rules(work, inner, rules, source, target, "match")
    work.level -= 1
    return work.settle(bound, True)


def is_value_form(scope, e):
    """Whether an expression is a value form."""
    tag = e[0]
    if tag in ("int", "string", "var", "con", "fn"):
        return True
    if tag == "tuple":
        return all([is_value_form(scope, part) for part in e[1]])
    if tag == "typed":
        return is_value_form(scope, e[1])
    if tag == "app" and e[1][0] == "con" and scope.seek(CONSTRUCTOR, e[1][1])[0] == "con":
        return is_value_form(scope, e[2])
    return False


def fit(work, scope, pattern, bound):
    """The node of the type that a pattern fits, and the pattern with the names that constructors have for matches.

    The nodes of the names in the pattern are added to `bound`.
    """
    tag = pattern[0]
    if tag == "pcon":
        return fit_constructor(work, scope, pattern, bound)
    if tag == "ptuple":
        parts = [fit(work, scope, part, bound) for part in pattern[1]]
        node = work.graph.product([part for part, _ in parts])
        return node, ("ptuple", tuple([resolved for _, resolved in parts]))
    if tag == "pint":
        return work.node_of(integer_ty(pattern[1]), {}), pattern
    if tag == "pstring":
        return work.node_of(string_ty(pattern[1]), {}), pattern
    node = work.unknown()
    if tag == "name":
        bound[pattern[1]] = node
    return node, pattern


def fit_constructor(work, scope, pattern, bound):
    """As `fit`, for a pattern with a constructor or an exception."""
    _, path, inner = pattern
    argument, result = constructor_nodes(work, scope, path)
    if (argument is None) != (inner is None):
        raise Mismatch(-1)
    kind, owner, _, _ = scope.seek(CONSTRUCTOR, path)
    name = (owner if kind == "exn" else path[-1],)
    if inner is None:
        return result, ("pcon", name, None)
    node, resolved = fit(work, scope, inner, bound)
    work.graph.unify(argument, node)
    return result, ("pcon", name, resolved)


RULES = {
    "int": infer_int, "string": infer_string, "var": infer_var, "con": infer_con, "tuple": infer_tuple,
    "app": infer_app, "fn": infer_fn, "case": infer_case, "if": infer_if, "let": infer_let, "seq": infer_seq,
    "raise": infer_raise, "handle": infer_handle, "typed": infer_typed,
}
