"""Types, schemes and substitutions (points 20 to 22)."""

from guanaco.errors import LimitError, Mismatch
from guanaco.forms import build, fold, head_of, parts_of
from guanaco.graph import Graph
from guanaco.limits import MOST_DEPTH
from guanaco.tokens import LOWER


def substitute(substitution, ty):
    """The type under the substitution."""
    graph = Graph()
    known = {}
    start = graph.enter(ty, known, 0)
    waiting = list(known)
    while waiting:
        a = waiting.pop()
        if a in substitution:
            before = len(known)
            graph.link(known[a], graph.enter(substitution[a], known, 0))
            waiting.extend(list(known)[before:])
    variable_of = {node: a for a, node in known.items()}
    return graph.export(start, {}, lambda node: ("var", variable_of[node]))


def variables(ty):
    """The list of the type variables of a type in the order of their first occurrence."""
    found = {}
    work = [ty]
    while work:
        item = work.pop()
        if item[0] == "var":
            found[item[1]] = True
        for part in reversed(parts_of(item)):
            work.append(part)
    return list(found)


def nodes(ty):
    """The number of nodes of a type."""
    count = 0
    work = [ty]
    while work:
        count += 1
        work.extend(parts_of(work.pop()))
    return count


def close(ty):
    """The scheme of a type for all of its variables, or Mismatch for more than 26."""
    found = variables(ty)
    if len(found) > len(LOWER):
        raise Mismatch(-1)
    letters = tuple(LOWER[:len(found)])
    return letters, instance((tuple(found), ty), [("var", letter) for letter in letters])


def instance(scheme, types):
    """The scheme's type with the types in the place of the letters."""
    letters, ty = scheme
    meaning = dict(zip(letters, types))

    def combine(item, parts):
        if item[0] == "var":
            return meaning.get(item[1], item)
        return build(head_of(item), parts)
    return fold(ty, combine)


def scheme_ty(scheme):
    """The type of a program for the type of a scheme with the type constructors of the start."""
    def combine(item, parts):
        depth = 1 + max([inner for _, inner in parts], default=0)
        if depth > MOST_DEPTH:
            raise LimitError("the type is too deep")
        return written(item, [part for part, _ in parts]), depth
    return fold(scheme[1], combine)[0]


def written(ty, parts):
    """The type of a program for a type whose parts have been translated."""
    if ty[0] == "var":
        return ("tyvar", ty[1])
    if ty[0] == "fun":
        return ("tyfun", parts[0], parts[1])
    if ty[0] == "tuple":
        return ("tytuple", tuple(parts))
    return ("tycon", (ty[1],), tuple(parts))


def ty_scheme(ty):
    """The scheme of a type of a program with the type constructors of the start."""
    return close(read_ty(ty))


def read_ty(ty):
    """The type for a type of a program with the type constructors of the start."""
    if ty[0] == "tyvar":
        return ("var", ty[1])
    if ty[0] == "tyfun":
        return ("fun", read_ty(ty[1]), read_ty(ty[2]))
    if ty[0] == "tytuple":
        return ("tuple", tuple([read_ty(part) for part in ty[1]]))
    return ("con", ty[1][-1], tuple([read_ty(part) for part in ty[2]]))


def unify(pairs):
    """A most general substitution that makes the types of each pair equal, or Mismatch."""
    graph = Graph()
    known = {}
    for first, second in pairs:
        graph.unify(graph.enter(first, known, 0), graph.enter(second, known, 0))
    chosen = {}
    for a, node in known.items():
        chosen.setdefault(graph.root(node), a)
    substitution = {}
    for a, node in known.items():
        root = graph.root(node)
        if chosen[root] != a:
            substitution[a] = ("var", chosen[root])
        elif not graph.is_variable(root):
            substitution[a] = node_value(graph, root, chosen)
    return substitution


def node_value(graph, root, chosen):
    """The type of a node in which other nodes that have a variable are that variable."""
    known = {node: ("var", a) for node, a in chosen.items() if node != root}
    return graph.export(root, known, lambda node: ("var", chosen[node]))
