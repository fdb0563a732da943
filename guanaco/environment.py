"""What is in scope while a program runs (points 24 and 40).

A value stands under its name, anything else under the pair of its kind and its name.
"""

CONSTRUCTOR = "constructor"
STRUCTURE = "structure"
SIGNATURE = "signature"
FUNCTOR = "functor"


class Exn:
    """An exception of a run, which is equal to itself alone."""

    def __init__(self, name):
        self.name = name


class Environment:
    """A table of what was declared last, and the environment around it."""

    def __init__(self, outer, table):
        self.outer = outer
        self.table = table

    def seek(self, key):
        """What stands under a key, or None."""
        place = self
        while place is not None:
            if key in place.table:
                return place.table[key]
            place = place.outer
        return None


class Structure:
    """The table of what a structure has."""

    def __init__(self, table):
        self.table = table

    def seek(self, key):
        """What stands under a key, or None."""
        return self.table.get(key)


class Place:
    """A row of declarations: the environment behind those that were evaluated, and what they have declared.

    `bound` has the values of `val` and `fun` declarations, each at its last place.
    """

    def __init__(self, env):
        self.env = env
        self.found = {}
        self.bound = {}

    def declare(self, table):
        """Declares what a table has."""
        self.enter(Environment(self.env, table))

    def enter(self, env):
        """Declares what the innermost table of a new environment has."""
        self.env = env
        self.found.update(env.table)

    def bind(self, names):
        """Notes the values that a `val` or a `fun` has just declared."""
        for name in names:
            self.bound.pop(name, None)
            self.bound[name] = self.found[name]


def seek_path(env, kind, path):
    """What a path leads to, or None. The kind is None for values."""
    place = env
    for name in path[:-1]:
        place = place.seek((STRUCTURE, name))
        if place is None:
            return None
    return place.seek(path[-1] if kind is None else (kind, path[-1]))
