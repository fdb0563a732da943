"""Core programs for the tests."""

INT = ("con", "int", ())
STRING = ("con", "string", ())
BOOL = ("con", "bool", ())
EXN = ("con", "exn", ())
UNIT = ("tuple", ())
A = ("var", "a")
START = (
    ("bool", (), (("False", None), ("True", None))),
    ("list", ("a",), (("Nil", None), ("Cons", ("tuple", (A, ("con", "list", (A,))))))),
)
DATA = START + (
    ("t.1", (), (("N", None), ("I", INT))),
    ("box.2", ("a", "b"), (("Box", ("tuple", (A, ("var", "b")))),)),
)
T = ("con", "t.1", ())
ONE = ("int", 1)
ERROR = ("raise", INT, ("pack", "Div", None))


def fun(ty, other):
    return ("fun", ty, other)


def held(ty):
    return ("con", "ref", (ty,))


def listed(ty):
    return ("con", "list", (ty,))


def var(x, *types):
    return ("var", x, types)


def let(x, ty, e, letters=()):
    return ("let", x, letters, ty, e)


def shown(name, x, ty, letters=()):
    return (name, (letters, ty), x, letters, ty)


def program(*declarations, show=(), data=DATA):
    return (data, declarations, show)


def of(e, ty=INT):
    """A program of one expression, which it shows if its type has no letters."""
    show = () if "'var'" in repr(ty) else (shown("x", "x.0", ty),)
    return program(let("x.0", ty, e), show=show)


# An expression of each kind with its type.
TYPED = {
    "int": (ONE, INT), "string": (("string", "a"), STRING),
    "var": (("block", (let("y.1", INT, ONE),), var("y.1")), INT),
    "polymorphic": (("block", (let("i.1", fun(A, A), ("fn", "y.2", A, var("y.2")), ("a",)),),
                     ("apply", var("i.1", INT), ONE)), INT),
    "fn": (("fn", "y.1", INT, var("y.1")), fun(INT, INT)),
    "apply": (("apply", ("fn", "y.1", INT, var("y.1")), ONE), INT),
    "block": (("block", (), ONE), INT),
    "unit": (("tuple", ()), UNIT), "tuple": (("tuple", (ONE, ("string", "a"))), ("tuple", (INT, STRING))),
    "part": (("part", 1, ("tuple", (ONE, ("string", "a")))), STRING),
    "con": (("con", "t.1", (), 0, None), T), "con of": (("con", "t.1", (), 1, ONE), T),
    "con at types": (("con", "box.2", (INT, STRING), 0, ("tuple", (ONE, ("string", "a")))),
                     ("con", "box.2", (INT, STRING))),
    "nil": (("con", "list", (INT,), 0, None), listed(INT)),
    "switch": (("block", (let("s.1", T, ("con", "t.1", (), 1, ONE)),),
                ("switch", "s.1", ((0, None, ONE), (1, "y.2", var("y.2"))), None)), INT),
    "switch with a default": (("block", (let("s.1", T, ("con", "t.1", (), 1, ONE)),),
                               ("switch", "s.1", ((0, None, ONE),), ("int", 2))), INT),
    "choose": (("block", (let("s.1", INT, ONE),), ("choose", "s.1", ((1, ONE), (2, ONE)), ONE)), INT),
    "choose a string": (("block", (let("s.1", STRING, ("string", "")),), ("choose", "s.1", (("a", ONE),), ONE)), INT),
    "unpack": (("block", (("exception", "E.1", INT), let("s.2", EXN, ("pack", "E.1", ONE))),
                ("unpack", "s.2", (("E.1", "y.3", var("y.3")), ("Div", None, ONE)), ONE)), INT),
    "pack": (("pack", "Size", None), EXN), "raise": (ERROR, INT),
    "handle": (("handle", ERROR, "h.1", ("unpack", "h.1", (("Div", None, ("int", 7)),), ONE)), INT),
    "prim": (("prim", "plus", (ONE, ONE)), INT), "prim of one": (("prim", "digits", (ONE,)), STRING),
    "references": (("block", (let("r.1", held(INT), ("prim", "ref", (ONE,))),
                              let("u.2", UNIT, ("prim", "assign", (var("r.1"), ("int", 5))))),
                    ("prim", "get", (var("r.1"),))), INT),
    "fix": (("block", (("fix", (("f.1", (), fun(INT, INT), "n.2", INT,
                                 ("choose", "n.2", ((0, ONE),), ("apply", var("g.3"), ("int", 0)))),
                                ("g.3", (), fun(INT, INT), "n.4", INT, ("apply", var("f.1"), var("n.4"))))),),
             ("apply", var("f.1"), ("int", 3))), INT),
    "polymorphic fix": (("block", (("fix", (("f.1", ("a",), fun(A, A), "n.2", A, ("block", (
        let("u.3", fun(A, A), var("f.1")),), var("n.2"))),)),), ("apply", var("f.1", INT), ONE)), INT),
}
