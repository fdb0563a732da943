"""Building units again after edits (points 133 and 134)."""

from guanaco.errors import GuanacoError
from guanaco.units import compile_unit


class Build:
    """A build. `rows` has the units by their names, in their order.

    `compiled` has their objects, each with the unit that it was made from, and `failures` the errors of the others.
    """

    def __init__(self):
        self.rows = {}
        self.compiled = {}
        self.failures = {}

    def apply(self, edits):
        """Applies edits. The list of the names of the units whose compiling was begun."""
        for kind, what in edits:
            if kind == "put":
                self.rows[what[0]] = what
            else:
                self.rows.pop(what, None)
                self.compiled.pop(what, None)
        return self.renew()

    def renew(self):
        """Compiles what has to be compiled. The list of the names of the units whose compiling was begun."""
        begun = []
        done = {}
        before = self.compiled
        self.compiled = {}
        self.failures = {}
        while True:
            ready = [name for name in self.rows if name not in done and self.is_ready(name)]
            if not ready:
                break
            name = min(ready)
            done[name] = True
            if self.is_kept(name, before):
                self.compiled[name] = before[name]
            else:
                begun.append(name)
                self.make(name)
        for name in self.rows:
            if name not in done:
                self.failures[name] = ("import", self.first_lack(name))
        return begun

    def is_ready(self, name):
        """Whether all imports of a unit have objects."""
        return all([other in self.compiled for other in self.rows[name][1]])

    def first_lack(self, name):
        """The first import of a unit that has no object."""
        return [other for other in self.rows[name][1] if other not in self.compiled][0]

    def interfaces(self, name):
        """The interfaces of the imports of a unit, by their names."""
        return {other: self.compiled[other][1][3] for other in self.rows[name][1]}

    def is_kept(self, name, before):
        """Whether the object that a unit had before is still that of the unit."""
        if name not in before or before[name][0] != self.rows[name]:
            return False
        return before[name][1][2] == tuple(list(self.interfaces(name).values()))

    def make(self, name):
        """Compiles a unit."""
        unit = self.rows[name]
        try:
            self.compiled[name] = (unit, compile_unit(unit, self.interfaces(name)))
        except GuanacoError as error:
            kind = type(error).__name__
            self.failures[name] = ("text", kind)

    def units(self):
        """The list of the units."""
        return list(self.rows.values())

    def state(self, name):
        """The object or the error of a unit, or None."""
        if name in self.compiled:
            return ("object", self.compiled[name][1])
        return ("error", self.failures[name]) if name in self.failures else None

    def objects(self):
        """The list of the objects, in the order of the units."""
        return [self.compiled[name][1] for name in self.rows if name in self.compiled]
