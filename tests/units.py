"""Units of the normal form for the tests."""

from cores import DATA, EXN, INT, STRING, T, UNIT

NO = ("tag", 0)


def n(k):
    return ("name", k)


def i(k):
    return ("int", k)


def s(text):
    return ("string", text)


def bind(x, *operation):
    return ("bind", x, operation)


def prim(x, name, *atoms):
    return ("bind", x, ("prim", name, atoms))


def call(x, function, argument):
    return ("bind", x, ("apply", function, argument))


def give(atom, *steps):
    return (steps, ("give", atom))


def throw(atom, *steps):
    return (steps, ("throw", atom))


def select(kind, atom, branches, default, *steps):
    return (steps, (kind, atom, tuple(branches), default))


def fix(*functions):
    return ("fix", functions)


def of(block, ty=INT, exceptions=(), x=900):
    """A unit whose block shows the value of a block."""
    steps, end = block
    shown = (("v", ((), ty), "v.0", (), ty),)
    if end[0] == "give":
        whole = (steps + (bind(x, "tuple", (end[1],)),), ("give", n(x)))
    else:
        whole = (("sub", x + 1, block), bind(x, "tuple", (n(x + 1),))), ("give", n(x))
    return whole, (shown, DATA, exceptions)


def steps_of(*steps):
    """A block of steps that gives nothing of interest."""
    return steps, ("give", NO)


# Blocks of all kinds, with the types of their values.
BLOCKS = {
    "int": (give(i(1)), INT), "prim": (give(n(0), prim(0, "plus", i(1), i(2))), INT),
    "apply": (give(n(2), fix((0, 1, give(n(1)))), call(2, n(0), i(5))), INT),
    "tuple": (give(n(1), bind(0, "tuple", (i(1), s("a"))), bind(1, "part", 1, n(0))), STRING),
    "make": (give(n(0), bind(0, "make", 1, i(3))), T), "tag": (give(NO), T), "unit": (give(NO), UNIT),
    "arg": (give(n(1), bind(0, "make", 1, i(3)), bind(1, "arg", n(0))), INT),
    "pack": (give(n(0), bind(0, "pack", i(2), None)), EXN),
    "sub": (give(n(0), ("sub", 0, select("choose", i(1), ((1, give(i(4))),), give(i(5))))), INT),
    "guard": (give(n(0), ("guard", 0, throw(n(1), bind(1, "pack", i(1), None)), 2, give(i(6)))), INT),
    "switch": (select("switch", n(0), ((0, give(i(1))), (1, give(n(1), bind(1, "arg", n(0))))), None,
                      bind(0, "make", 1, i(8))), INT),
    "choose": (select("choose", n(0), (("a", give(i(1))),), give(i(2)), prim(0, "concat", s("a"), s(""))), INT),
    "unpack": (select("unpack", n(0), ((i(0), give(i(1))), (i(1), give(i(2)))), give(i(3)), bind(0, "pack", i(1), None)), INT),
    "fix": (give(n(4), fix((0, 1, select("choose", n(1), ((0, give(i(7))),), give(n(2), call(2, n(5), n(3)), ), prim(3, "minus", n(1), i(1)))),
                           (5, 6, give(n(7), call(7, n(0), n(6))))), call(4, n(0), i(3))), INT),
}
