"""Syntax trees (points 10 to 14): the parts of a node, and measures of trees."""

# Where the parts of a node stand that are nodes themselves, in the order of the text. A part may be None.
PLAIN_PARTS = {
    "app": (1, 2), "if": (1, 2, 3), "seq": (1, 2), "raise": (1,), "typed": (1, 2),
    "pcon": (2,), "tyfun": (1, 2),
    "val": (1, 2), "alias": (3,), "exception": (2,), "structure": (2,), "signature": (2,), "functor": (3, 4),
    "apply": (2,), "seal": (1, 2), "where": (1, 4),
    "sval": (2,), "stype": (3,), "sexn": (2,), "sstr": (2,),
}
# Where a tuple of nodes stands.
TUPLE_PARTS = {"tuple": 1, "ptuple": 1, "tytuple": 1, "tycon": 2, "struct": 1, "sig": 1}


def children(tree):
    """The list of the nodes directly within a node or a program, in the order of the text."""
    if not tree or not isinstance(tree[0], str):
        return list(tree)
    tag = tree[0]
    if tag in PLAIN_PARTS:
        return [tree[place] for place in PLAIN_PARTS[tag] if tree[place] is not None]
    if tag in TUPLE_PARTS:
        return list(tree[TUPLE_PARTS[tag]])
    if tag in ("datatype", "sdata"):
        return [ty for _, _, constructors in tree[1] for _, ty in constructors if ty is not None]
    if tag == "let":
        return [*tree[1], tree[2]]
    found = []
    if tag in ("case", "handle"):
        found.append(tree[1])
    for rules in matches_of(tree):
        for pattern, body in rules:
            found.append(pattern)
            found.append(body)
    return found


def matches_of(tree):
    """The list of the matches of a node: its rules, or those of each function of a `fun`."""
    if tree[0] == "fn":
        return [tree[1]]
    if tree[0] in ("case", "handle"):
        return [tree[2]]
    if tree[0] == "fun":
        return [rules for _, rules in tree[1]]
    return []


def size(tree):
    """The number of nodes and the depth of a tree. It may be much deeper than the limits."""
    count = 0
    deepest = 0
    if tree and isinstance(tree[0], str):
        work = [(tree, 1)]
    else:
        work = [(declaration, 1) for declaration in tree]
    while work:
        node, depth = work.pop()
        count += 1
        deepest = max(deepest, depth)
        for part in children(node):
            work.append((part, depth + 1))
    return count, deepest


def height(tree):
    """The height of a tree: its depth, where the way into a body counts the patterns of the match."""
    if not tree or not isinstance(tree[0], str):
        return max([height(declaration) for declaration in tree], default=0)
    matches = matches_of(tree)
    if not matches:
        return 1 + max([height(part) for part in children(tree)], default=0)
    highest = 0
    if tree[0] in ("case", "handle"):
        highest = height(tree[1])
    for rules in matches:
        highest = max(highest, match_height(rules))
    return 1 + highest


def match_height(rules):
    """The height of a match."""
    patterns = sum([size(pattern)[0] for pattern, _ in rules])
    highest = 0
    for pattern, body in rules:
        highest = max(highest, height(pattern), patterns + height(body))
    return highest


def names(pattern):
    """The list of the names in a pattern, from left to right."""
    found = []
    work = [pattern]
    while work:
        node = work.pop()
        if node[0] == "name":
            found.append(node[1])
        for part in reversed(children(node)):
            work.append(part)
    return found
