"""Value trees (point 6)."""

MOST_PARTS = 200


def value_tree(value, look):
    """The value tree of a value.

    `look(value)` tells what the value is: a triple of the kind, the word of the tree, and the tuple of the values
    directly within it. A kind without a word is a function, a tuple or a reference.
    """
    shapes = []
    work = [value]
    while work:
        part = work.pop()
        if len(shapes) >= MOST_PARTS:
            shapes.append(("deep", None, 0))
            continue
        kind, word, parts = look(part)
        shapes.append((kind, word, len(parts)))
        work.extend(list(reversed(parts)))
    return assembled(shapes)


def assembled(shapes):
    """The tree of shapes: kinds, words and numbers of parts, a tree before the trees in it."""
    done = []
    for kind, word, count in reversed(shapes):
        parts = [done.pop() for _ in range(count)]
        done.append(tree_of(kind, word, parts))
    return done[0]


def tree_of(kind, word, parts):
    """The tree of a kind with a word and the trees within it."""
    if kind in ("int", "string"):
        return (kind, word)
    if kind == "tuple":
        return ("tuple", tuple(parts))
    if kind in ("con", "exn"):
        return (kind, word, parts[0] if parts else None)
    return (kind, *parts)
