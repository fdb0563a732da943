"""The limits of syntax trees (point 3)."""

from guanaco.errors import LimitError
from guanaco.trees import children, height, matches_of, size

MOST_NODES = 800
MOST_DEPTH = 30
MOST_HEIGHT = 120
MOST_PARTS = 6
MOST_RULES = 16
MOST_PATTERN_NODES = 100
MOST_CONSTRUCTORS = 16
MOST_PARAMETERS = 4
MOST_DECLARATIONS = 60

# Where the letters of a type constructor stand in a node.
LETTERS_PLACE = {"alias": 1, "stype": 1, "where": 3}


def check_limits(tree):
    """Raises LimitError for a program, an expression or a type that is beyond the limits."""
    count, depth = size(tree)
    # Only a tree that is not too deep can be measured further by functions that follow its depth.
    if count > MOST_NODES or depth > MOST_DEPTH or height(tree) > MOST_HEIGHT:
        raise LimitError("the tree is too large")
    if not tree or not isinstance(tree[0], str):
        if len(tree) > MOST_DECLARATIONS:
            raise LimitError("the program has too many declarations")
        work = list(tree)
    else:
        work = [tree]
    while work:
        node = work.pop()
        check_node(node)
        for part in children(node):
            work.append(part)


def check_node(node):
    """Raises LimitError if the node itself has too many parts of some kind."""
    tag = node[0]
    if tag in ("tuple", "ptuple", "tytuple") and len(node[1]) > MOST_PARTS:
        raise LimitError("a tuple has too many parts")
    for rules in matches_of(node):
        if len(rules) > MOST_RULES:
            raise LimitError("a match has too many rules")
    if tag == "val" and size(node[1])[0] > MOST_PATTERN_NODES:
        raise LimitError("a pattern is too large")
    if tag in ("datatype", "sdata"):
        for letters, _, constructors in node[1]:
            check_letters(letters)
            if len(constructors) > MOST_CONSTRUCTORS:
                raise LimitError("a data type has too many constructors")
    if tag in LETTERS_PLACE:
        check_letters(node[LETTERS_PLACE[tag]])


def check_letters(letters):
    """Raises LimitError for too many parameters of a type constructor."""
    if len(letters) > MOST_PARAMETERS:
        raise LimitError("a type constructor has too many parameters")
