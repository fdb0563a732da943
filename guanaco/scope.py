"""What is in scope: four kinds of names, each with an entry (point 24)."""

VALUE = "value"
TY = "ty"
CONSTRUCTOR = "constructor"
STRUCTURE = "structure"
KINDS = ("value", "ty", "constructor", "structure")


class Scope:
    """The names of each kind and their entries. The entry of a structure is a scope itself.

    What an entry is depends on who uses the scope. A scope that is an entry is not changed any more.
    """

    def __init__(self):
        self.tables = {kind: {} for kind in KINDS}

    def bind(self, kind, name, entry):
        """Declares a name, which hides an earlier one."""
        self.tables[kind][name] = entry

    def has(self, kind, name):
        """Whether a name of a kind is there."""
        return name in self.tables[kind]

    def names_of(self, kind):
        """The list of the names of a kind."""
        return list(self.tables[kind])

    def entry(self, kind, name):
        """The entry of a name that is there."""
        return self.tables[kind][name]

    def include(self, other):
        """Declares all that another scope has."""
        for kind in KINDS:
            self.tables[kind].update(other.tables[kind])

    def inner(self):
        """A scope that has the same, to declare more in it."""
        copied = Scope()
        copied.include(self)
        return copied

    def seek(self, kind, path):
        """The entry of a path, or None if it is not in scope."""
        place = self
        for name in path[:-1]:
            place = place.tables[STRUCTURE].get(name)
            if place is None:
                return None
        return place.tables[kind].get(path[-1])
