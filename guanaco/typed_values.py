"""Value trees by types, for values that do not tell what they are (point 105).

What a value is, is an object: a triple of the kind, the word and the tuple of the values within it. The kinds are
"int", "string", "tag", "tuple", "make", "pack", "close" and "ref"; integers, strings and the numbers of constructors
and exceptions are words. A kind without a word has any.
"""

from guanaco.monos import instance
from guanaco.start import EXCEPTIONS
from guanaco.store import Ended
from guanaco.value_trees import value_tree

STUCK = ("stuck",)


class Tables:
    """The values that are shown, the data types and the exceptions of a unit.

    `declared` has the number of its declaration for each exception that was made, in order. `reveal(value)` is the
    object of a value.
    """

    def __init__(self, info, declared, reveal):
        self.shown, data, self.exceptions = info
        self.data = {name: (letters, constructors) for name, letters, constructors in data}
        self.declared = declared
        self.reveal = reveal

    def object_of(self, value):
        """The object of a value."""
        reveal = self.reveal
        return reveal(value)

    def typed_tree(self, value, ty):
        """The value tree of a value of a type. The run is stuck if it is none."""
        return value_tree((value, ty), self.look)

    def look(self, pair):
        """What a value of a type is, for its value tree."""
        value, ty = pair
        found = self.object_of(value)
        if ty[0] == "fun":
            demand(found[0] == "close")
            return "fn", None, ()
        if ty[0] == "tuple":
            return look_tuple(found, ty[1])
        demand(ty[0] == "con")
        name = ty[1]
        if name in ("int", "string"):
            demand(found[0] == name)
            return found
        if name == "ref":
            demand(found[0] == "ref")
            return "ref", None, ((found[2][0], ty[2][0]),)
        if name == "exn":
            return self.look_exception(found)
        return self.look_data(found, ty)

    def look_data(self, found, ty):
        """As `look`, for the object of a value of a data type."""
        kind, number, fields = found
        demand(kind in ("tag", "make") and ty[1] in self.data)
        letters, constructors = self.data[ty[1]]
        demand(number < len(constructors))
        high, argument = constructors[number]
        demand((argument is None) == (kind == "tag"))
        if argument is None:
            return "con", high, ()
        return "con", high, ((fields[0], instance((letters, argument), ty[2])),)

    def look_exception(self, found):
        """As `look`, for the object of an exception value."""
        kind, z, fields = found
        demand(kind == "pack")
        name, ty = self.exception(z)
        demand((fields == ()) == (ty is None))
        return "exn", name, () if ty is None else ((fields[0], ty),)

    def exception(self, z):
        """The name of an exception, and the type of its argument or None."""
        if z < len(EXCEPTIONS):
            return EXCEPTIONS[z], None
        number = self.declared[z - len(EXCEPTIONS)]
        demand(number < len(self.exceptions))
        return self.exceptions[number]


def look_tuple(found, types):
    """As `Tables.look`, for the object of a tuple."""
    if not types:
        demand(found[:2] == ("tag", 0))
        return "tuple", None, ()
    kind, _, fields = found
    demand(kind == "tuple" and len(fields) == len(types))
    return "tuple", None, tuple(list(zip(fields, types)))


def demand(test):
    """The run is stuck unless a test holds."""
    if not test:
        raise Ended(STUCK)


def finished(tables, end):
    """The end of a run. One with an exception that nothing takes has had the value of it so far."""
    return shown_exception(tables, end[1]) if end[0] == "raised" else end


def shown_values(tables, value):
    """The end of a run whose value is that of function 0."""
    types = tuple([entry[4] for entry in tables.shown])
    _, _, parts = look_tuple(tables.object_of(value), types)
    bindings = []
    for (name, _, _, _, _), (part, ty) in zip(tables.shown, parts):
        bindings.append((name, tables.typed_tree(part, ty)))
    return ("done", tuple(bindings))


def shown_exception(tables, value):
    """The end of a run with an exception value that nothing takes."""
    try:
        _, name, parts = tables.look_exception(tables.object_of(value))
        trees = [tables.typed_tree(part, ty) for part, ty in parts]
    except Ended as error:
        return error.end
    return ("raised", name, trees[0] if trees else None)
