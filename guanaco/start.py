"""What is there before a program begins (points 20 and 23)."""

from guanaco.monos import ty_scheme
from guanaco.parser import parse_ty

PRIMITIVES = (
    ("plus", "int * int -> int"), ("minus", "int * int -> int"), ("times", "int * int -> int"),
    ("quotient", "int * int -> int"), ("remainder", "int * int -> int"), ("negate", "int -> int"),
    ("equal", "int * int -> bool"), ("unequal", "int * int -> bool"), ("less", "int * int -> bool"),
    ("atmost", "int * int -> bool"), ("greater", "int * int -> bool"), ("atleast", "int * int -> bool"),
    ("concat", "string * string -> string"), ("size", "string -> int"), ("code", "string * int -> int"),
    ("same", "string * string -> bool"), ("digits", "int -> string"), ("print", "string -> unit"),
    ("ref", "'a -> 'a ref"), ("get", "'a ref -> 'a"), ("assign", "'a ref * 'a -> unit"),
)
# The type constructors with the letters of their parameters.
BASE_TYPES = (("int", ()), ("string", ()), ("exn", ()), ("ref", ("a",)), ("bool", ()), ("list", ("a",)))
DATA = (
    ("bool", (), (("False", None), ("True", None))),
    ("list", ("a",), (("Nil", None), ("Cons", ("tuple", (("var", "a"), ("con", "list", (("var", "a"),))))))),
)
EXCEPTIONS = ("Overflow", "Div", "Size", "Subscript")


def primitive_schemes():
    """The list of the pairs of the name and the scheme of each primitive."""
    return [(name, ty_scheme(parse_ty(text))) for name, text in PRIMITIVES]
