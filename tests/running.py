"""Helpers for the tests of runs."""

from guanaco.define import run
from guanaco.parser import parse

DONE = ("done", ())
MORE = ("more",)
FULL = ("full",)
STUCK = ("stuck",)


def ran(text, fuel=2000):
    """The run of a program."""
    return run(parse(text), fuel)


def end_of(text, fuel=2000):
    """The end of a run."""
    return ran(text, fuel)[1]


def printed(text, fuel=2000):
    """What a run prints, in one string."""
    return "".join(ran(text, fuel)[0])


def value_of(text, fuel=2000):
    """The value tree of the last value that a program binds, or the end of its run if it is not done."""
    end = end_of(text, fuel)
    return end[1][-1][1] if end[0] == "done" else end


def agree(first, second):
    """Whether two runs agree (point 7)."""
    for one, other in ((first, second), (second, first)):
        if one[1] in (MORE, FULL) and other[0][:len(one[0])] == one[0]:
            return True
    return first == second


def parts(tree):
    """The value trees in a value tree, a tree before those in it."""
    found = [tree]
    if tree[0] == "tuple":
        inner = tree[1]
    elif tree[0] == "ref":
        inner = tree[1:]
    else:
        inner = [part for part in tree[2:] if part is not None]
    for part in inner:
        found.extend(parts(part))
    return found
