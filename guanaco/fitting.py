"""The types of patterns (point 27).

The draft of a pattern is the pattern with what elaboration needs: `("any", i)`, `("name", x, i)`, `("pint", n, i)`,
`("pstring", s, i)`, `("ptuple", drafts, i)`, `("pcon", name, k, many, draft or None, i)` with the number of the
constructor and of all constructors, `("pexn", exception, path, draft or None, i)`; i is the note of its type.
"""

from guanaco.errors import Mismatch
from guanaco.scope import CONSTRUCTOR
from guanaco.work import constructor_nodes, constructor_place, integer_ty, string_ty


def fit(work, scope, pattern, bound):
    """The node of the type that a pattern fits, and its draft.

    The nodes of the names in the pattern are added to `bound`.
    """
    tag = pattern[0]
    if tag == "pcon":
        return fit_constructor(work, scope, pattern, bound)
    if tag == "ptuple":
        parts = [fit(work, scope, part, bound) for part in pattern[1]]
        node = work.graph.product([part for part, _ in parts])
        return node, ("ptuple", tuple([draft for _, draft in parts]), work.note(node))
    if tag in ("pint", "pstring"):
        ty = integer_ty(pattern[1]) if tag == "pint" else string_ty(pattern[1])
        node = work.node_of(ty, {})
        return node, (tag, pattern[1], work.note(node))
    node = work.unknown()
    if tag == "name":
        bound[pattern[1]] = node
        return node, ("name", pattern[1], work.note(node))
    return node, ("any", work.note(node))


def fit_constructor(work, scope, pattern, bound):
    """As `fit`, for a pattern with a constructor or an exception."""
    _, path, inner = pattern
    argument, result = constructor_nodes(work, scope, path)
    if (argument is None) != (inner is None):
        raise Mismatch(-1)
    draft = None
    if inner is not None:
        node, draft = fit(work, scope, inner, bound)
        work.graph.unify(argument, node)
    kind, owner, _, _ = scope.seek(CONSTRUCTOR, path)
    if kind == "exn":
        return result, ("pexn", owner, path, draft, work.note(result))
    k, many = constructor_place(work.world, owner, path[-1])
    return result, ("pcon", path[-1], k, many, draft, work.note(result))


def resolved(draft):
    """The pattern of a draft as the functions of the matches look at it, with paths of one part."""
    tag = draft[0]
    if tag in ("any", "name"):
        return ("any",)
    if tag == "ptuple":
        return ("ptuple", tuple([resolved(part) for part in draft[1]]))
    if tag in ("pint", "pstring"):
        return (tag, draft[1])
    inner = draft[-2]
    return ("pcon", (draft[1],), None if inner is None else resolved(inner))
