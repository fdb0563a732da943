"""The expressions and declarations directly within those of the core language (points 82 and 83)."""

# Where parts stand that are expressions, in their order. A part may be None.
PLAIN_PARTS = {
    "int": (), "string": (), "var": (), "fn": (3,), "apply": (1, 2), "part": (2,), "con": (4,), "pack": (2,),
    "raise": (2,), "handle": (1, 3), "let": (4,), "exception": (),
}


def children(tree):
    """The list of the expressions and declarations directly within one, from left to right."""
    tag = tree[0]
    if tag in PLAIN_PARTS:
        return [tree[place] for place in PLAIN_PARTS[tag] if tree[place] is not None]
    if tag == "tuple":
        return list(tree[1])
    if tag == "prim":
        return list(tree[2])
    if tag == "block":
        return [*tree[1], tree[2]]
    if tag == "fix":
        return [function[5] for function in tree[1]]
    found = [branch[-1] for branch in tree[2]]
    if tree[3] is not None:
        found.append(tree[3])
    return found


def types_of(tree):
    """The list of the types that stand in an expression or a declaration itself."""
    tag = tree[0]
    if tag == "var":
        return list(tree[2])
    if tag in ("fn", "exception"):
        return [] if tree[2] is None else [tree[2]]
    if tag == "con":
        return [("con", tree[1], tree[2])]
    if tag == "raise":
        return [tree[1]]
    if tag == "let":
        return [tree[3]]
    if tag == "fix":
        return [function[2] for function in tree[1]]
    return []
