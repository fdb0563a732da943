"""The expanded size of programs (point 67)."""

from guanaco.errors import LimitError
from guanaco.trees import children

LARGEST_EXPANSION = 4000


def check_expansion(program):
    """Raises LimitError for a program that is too large with its functors' bodies."""
    if expanded_size(program) > LARGEST_EXPANSION:
        raise LimitError("the program is too large where its functors are applied")


def expanded_size(program):
    """The expanded sizes of the outermost declarations together."""
    bodies = {}
    total = 0
    for declaration in program:
        total += expanded(declaration, bodies)
        if declaration[0] == "functor":
            bodies[declaration[1]] = expanded(declaration[4], bodies)
    return total


def expanded(tree, bodies):
    """The expanded size of a tree, with those of the bodies of the functors in scope."""
    total = 0
    work = [tree]
    while work:
        node = work.pop()
        total += 1
        if node[0] == "apply":
            total += bodies.get(node[1], 0)
        for part in children(node):
            work.append(part)
    return total
