"""What runs of all kinds have in common: fuel, outputs, references and primitives (points 5, 7, 23 and 44).

A value is a tuple that begins with its kind. Integers, strings and references are `("int", n)`,
`("string", s)` and `("ref", cell)` in runs of all kinds.
"""

from guanaco.errors import GuanacoError
from guanaco.primitives import OPERATIONS

MOST_REFERENCES = 1000
MOST_OUTPUTS = 200


class Ended(GuanacoError):
    """A run has come to its end."""

    def __init__(self, end):
        GuanacoError.__init__(self, f"the run ends: {end[0]}")
        self.end = end


class Cell:
    """A reference with what it holds."""

    def __init__(self, content):
        self.content = content


class Store:
    """The fuel that is left, what was printed, and the number of references.

    `no`, `yes` and `nothing` are the values of the run for False, True and the empty tuple.
    """

    def __init__(self, fuel, no, yes, nothing):
        self.fuel = fuel
        self.outputs = []
        self.references = 0
        self.no = no
        self.yes = yes
        self.nothing = nothing

    def spend(self):
        """Takes a step."""
        if self.fuel == 0:
            raise Ended(("more",))
        self.fuel -= 1

    def primitive(self, name, parts):
        """The value of a primitive for its arguments."""
        if name in PRIMITIVE_EFFECTS:
            action = PRIMITIVE_EFFECTS[name]
            return action(self, parts)
        kinds, kind, compute = OPERATIONS[name]
        for wanted, part in zip(kinds, parts):
            if part[0] != wanted:
                raise Ended(("stuck",))
        words = [part[1] for part in parts]
        result = compute(*words)
        if kind == "bool":
            return self.yes if result else self.no
        return (kind, result)


def show(store, parts):
    """Prints a string."""
    if parts[0][0] != "string":
        raise Ended(("stuck",))
    if len(store.outputs) >= MOST_OUTPUTS:
        raise Ended(("full",))
    store.outputs.append(parts[0][1])
    return store.nothing


def make_reference(store, parts):
    """A new reference."""
    if store.references >= MOST_REFERENCES:
        raise Ended(("full",))
    store.references += 1
    return ("ref", Cell(parts[0]))


def read_reference(store, parts):
    """What a reference holds."""
    return cell_of(parts[0]).content


def write_reference(store, parts):
    """Changes what a reference holds."""
    cell = cell_of(parts[0])
    cell.content = parts[1]
    return store.nothing


def cell_of(value):
    """The cell of a reference."""
    if value[0] != "ref":
        raise Ended(("stuck",))
    return value[1]


def kinds_chosen(branches):
    """The kinds of values that a `choose` with these branches can select by."""
    if not branches:
        return ("int", "string")
    return ("string",) if isinstance(branches[0][0], str) else ("int",)


PRIMITIVE_EFFECTS = {
    "print": show, "ref": make_reference, "get": read_reference, "assign": write_reference,
}
