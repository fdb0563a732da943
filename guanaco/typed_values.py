"""Value trees by types, for values that do not tell what they are (point 105).

Values are `("int", n)`, `("string", s)`, `("tag", k)`, `("tuple", values)`, `("make", k, value)`,
`("pack", exception, value or None)`, `("close", number, environment)` and `("ref", cell)`.
"""

from guanaco.monos import instance
from guanaco.start import EXCEPTIONS
from guanaco.store import Ended
from guanaco.value_trees import value_tree

STUCK = ("stuck",)


class Tables:
    """The data types and exceptions of a unit.

    `declared` has the number of its declaration for each exception that was made, in order.
    """

    def __init__(self, info, declared):
        _, data, exceptions = info
        self.data = {name: (letters, constructors) for name, letters, constructors in data}
        self.exceptions = exceptions
        self.declared = declared

    def typed_tree(self, value, ty):
        """The value tree of a value of a type. The run is stuck if it is none."""
        return value_tree((value, ty), self.look)

    def look(self, pair):
        """What a value of a type is, for its value tree."""
        value, ty = pair
        if ty[0] == "fun":
            return of_kind(value, "close", ("fn", None, ()))
        if ty[0] == "tuple":
            return self.look_tuple(value, ty[1])
        if ty[0] == "var":
            raise Ended(STUCK)
        name = ty[1]
        if name in ("int", "string"):
            return of_kind(value, name, (name, value[1], ()))
        if name == "ref":
            demand(value[0] == "ref")
            return "ref", None, ((value[1].content, ty[2][0]),)
        if name == "exn":
            return self.look_exception(value)
        return self.look_data(value, ty)

    def look_tuple(self, value, types):
        """As `look`, for a tuple."""
        if not types:
            demand(value == ("tag", 0))
            return "tuple", None, ()
        demand(value[0] == "tuple" and len(value[1]) == len(types))
        return "tuple", None, tuple(list(zip(value[1], types)))

    def look_data(self, value, ty):
        """As `look`, for a value of a data type."""
        demand(value[0] in ("tag", "make") and ty[1] in self.data)
        letters, constructors = self.data[ty[1]]
        demand(value[1] < len(constructors))
        high, argument = constructors[value[1]]
        demand((argument is None) == (value[0] == "tag"))
        if argument is None:
            return "con", high, ()
        return "con", high, ((value[2], instance((letters, argument), ty[2])),)

    def look_exception(self, value):
        """As `look`, for an exception value."""
        demand(value[0] == "pack")
        _, z, argument = value
        if z < len(EXCEPTIONS):
            name, ty = EXCEPTIONS[z], None
        else:
            name, ty = self.exceptions[self.declared[z - len(EXCEPTIONS)]]
        demand((argument is None) == (ty is None))
        return "exn", name, () if ty is None else ((argument, ty),)


def demand(test):
    """The run is stuck unless a test holds."""
    if not test:
        raise Ended(STUCK)


def of_kind(value, kind, found):
    """What was found for a value, which must be of a kind."""
    demand(value[0] == kind)
    return found
